package poly_test

import (
	"math"
	exact "math/big"
	"slices"
	"strings"
	"testing"

	"pochoir/api"
	"pochoir/poly"
)

const (
	least = math.MinInt64
	most  = math.MaxInt64
)

// lists are coefficients, the one of the power 0 first; some end with zeros, and some have nothing but zeros.
func lists() [][]int64 {
	return [][]int64{
		nil, {0}, {0, 0, 0},
		{1}, {-1}, {2}, {-3}, {12}, {-7, 0}, {most}, {least},
		{0, 1}, {0, -1}, {1, 1}, {-1, 1}, {1, -1}, {2, 4}, {-4, -2, 0}, {3, -2}, {least, most}, {most, least},
		{0, 0, 1}, {-1, 0, 4}, {1, 0, -4}, {4, -12, 9}, {-2, 0, 1}, {1, 1, 1}, {2, -3, 1, 0, 0}, {least, 0, least}, {most, -1, least},
		{-1, 0, 0, 8}, {0, -1, 0, 1}, {5, 0, 0, -2, 0}, {1, -3, 3, -1}, {0, 0, 0, -6, 0, 0},
		{4, 0, -5, 0, 1}, {3, -2, 0, 0, 5}, {1, 0, 0, 0, 0, 0, 0, -1}, {9, 0, 0, 1, 0, 0, -3}, {1, 2, 3, 4, 5, 6, 7, 8, 9, 10, 11, 12, 13},
		{-5, 0, 0, 0, 0, 0, 0, 0, 0, 0, 0, 0, 0, 0, 0, 2},
	}
}

// whole is v in its one form.
func whole(v *exact.Int) api.Big {
	out := api.Big{Neg: v.Sign() < 0}
	for rest := new(exact.Int).Abs(v); rest.Sign() > 0; rest.Rsh(rest, 32) {
		out.Digits = append(out.Digits, uint32(new(exact.Int).And(rest, exact.NewInt(math.MaxUint32)).Uint64()))
	}
	return out
}

func number(a api.Big) *exact.Int {
	v := new(exact.Int)
	for i := len(a.Digits) - 1; i >= 0; i-- {
		v.Lsh(v, 32)
		v.Add(v, exact.NewInt(int64(a.Digits[i])))
	}
	if a.Neg {
		v.Neg(v)
	}
	return v
}

// of is a polynomial with these coefficients, with the zeros at its top.
func of(l ...int64) []api.Big {
	var out []api.Big
	for _, n := range l {
		out = append(out, whole(exact.NewInt(n)))
	}
	return out
}

// odd is p in another form: its numbers have zeros for their highest digits, its zeros say Neg, and there are more of them at its top.
func odd(p []api.Big) []api.Big {
	out := []api.Big{}
	for _, c := range p {
		out = append(out, api.Big{Neg: c.Neg || len(c.Digits) == 0, Digits: append(slices.Clone(c.Digits), 0, 0)})
	}
	return append(out, api.Big{Neg: true}, api.Big{Digits: []uint32{0}}, api.Big{Neg: true, Digits: []uint32{0, 0}})
}

// polys are those of the lists, and such with greater coefficients, in their one form and in others.
func polys() [][]api.Big {
	var out [][]api.Big
	great := api.Big{Digits: []uint32{0xfedcba98, 0, 0x01234567, 7}}
	below := api.Big{Neg: true, Digits: []uint32{0, 0, 0, 0, 1}}
	for _, p := range [][]api.Big{{great}, {below, great}, {great, {}, below}, {{}, great, {}, great}} {
		out = append(out, p, odd(p))
	}
	for _, l := range lists() {
		out = append(out, of(l...), odd(of(l...)))
	}
	return out
}

// ratios may be.
func ratios() []api.Ratio {
	return []api.Ratio{
		{N: 0, D: 1}, {N: 1, D: 1}, {N: -1, D: 1}, {N: 2, D: 1}, {N: -2, D: 1}, {N: 7, D: 1}, {N: 1, D: 2}, {N: -1, D: 2}, {N: 2, D: 3}, {N: 3, D: 2}, {N: -5, D: 3}, {N: 1, D: 3}, {N: 5, D: 7},
		{N: most, D: 1}, {N: least, D: 1}, {N: 1, D: most}, {N: least, D: most}, {N: most, D: most - 1}, {N: -most, D: 2},
	}
}

// wrongs may not be.
func wrongs() []api.Ratio {
	return []api.Ratio{
		{}, {N: 1}, {N: -1}, {N: least}, {N: 1, D: -1}, {N: -1, D: -2}, {N: 0, D: -1}, {N: 1, D: least}, {N: least, D: least},
		{N: 0, D: 2}, {N: 0, D: most}, {N: 2, D: 2}, {N: 2, D: 4}, {N: -2, D: 4}, {N: 6, D: 3}, {N: most, D: most}, {N: least, D: 2},
	}
}

// values are p's coefficients, without the zeros at its top.
func values(p []api.Big) []*exact.Int {
	var out []*exact.Int
	for _, c := range p {
		out = append(out, number(c))
	}
	return cut(out)
}

func cut(v []*exact.Int) []*exact.Int {
	for len(v) > 0 && v[len(v)-1].Sign() == 0 {
		v = v[:len(v)-1]
	}
	return v
}

// blank has n coefficients, all of them 0.
func blank(n int) []*exact.Int {
	out := make([]*exact.Int, n)
	for i := range out {
		out[i] = new(exact.Int)
	}
	return out
}

// is tells whether p is v, in its one form.
func is(p []api.Big, v []*exact.Int) bool {
	v = cut(v)
	if len(p) != len(v) {
		return false
	}
	for i, c := range p {
		n := len(c.Digits)
		if n == 0 && c.Neg || n > 0 && c.Digits[n-1] == 0 || number(c).Cmp(v[i]) != 0 {
			return false
		}
	}
	return true
}

// tell is p's coefficients as a text, for what failed.
func tell(p []api.Big) string {
	var out []string
	for _, c := range p {
		out = append(out, number(c).String())
	}
	return "[" + strings.Join(out, " ") + "]"
}

func plus(p, q []*exact.Int, sign int64) []*exact.Int {
	out := blank(max(len(p), len(q)))
	for i, c := range p {
		out[i].Add(out[i], c)
	}
	for i, c := range q {
		out[i].Add(out[i], new(exact.Int).Mul(c, exact.NewInt(sign)))
	}
	return out
}

func times(p, q []*exact.Int) []*exact.Int {
	out := blank(len(p) + len(q))
	for i, c := range p {
		for j, d := range q {
			out[i+j].Add(out[i+j], new(exact.Int).Mul(c, d))
		}
	}
	return cut(out)
}

// at is p's value at x as it is, without a power of D.
func at(p []*exact.Int, x api.Ratio) *exact.Rat {
	sum, power := new(exact.Rat), exact.NewRat(1, 1)
	for _, c := range p {
		sum.Add(sum, new(exact.Rat).Mul(new(exact.Rat).SetInt(c), power))
		power.Mul(power, new(exact.Rat).SetFrac64(x.N, x.D))
	}
	return sum
}

// rest is what is left of p by q as polynomials of fractions, times the absolute value of q's highest coefficient for each power of the quotient that isn't 0: it is taken in once for each.
func rest(p, q []*exact.Int) []*exact.Int {
	var left []*exact.Rat
	for _, c := range p {
		left = append(left, new(exact.Rat).SetInt(c))
	}
	top := q[len(q)-1]
	scale := exact.NewInt(1)
	for len(left) >= len(q) {
		shift := len(left) - len(q)
		share := new(exact.Rat).Quo(left[len(left)-1], new(exact.Rat).SetInt(top))
		if share.Sign() != 0 {
			scale.Mul(scale, new(exact.Int).Abs(top))
		}
		for i, c := range q {
			left[shift+i].Sub(left[shift+i], new(exact.Rat).Mul(share, new(exact.Rat).SetInt(c)))
		}
		left = left[:len(left)-1]
	}
	var out []*exact.Int
	for _, c := range left {
		c.Mul(c, new(exact.Rat).SetInt(scale))
		if !c.IsInt() {
			panic("rest: not a whole number")
		}
		out = append(out, c.Num())
	}
	return cut(out)
}

func TestOf(t *testing.T) {
	for _, l := range lists() {
		if got := poly.Of(l...); !is(got, values(of(l...))) {
			t.Errorf("Of(%v) = %v", l, got)
		}
	}
	for _, got := range [][]api.Big{poly.Of(), poly.Of(0), poly.Of(0, 0, 0, 0)} {
		if len(got) != 0 {
			t.Errorf("Of zeros = %v", got)
		}
	}
	if got := poly.Of(0, least, 0); len(got) != 2 || len(got[0].Digits) != 0 || got[0].Neg || !got[1].Neg || !slices.Equal(got[1].Digits, []uint32{0, 1 << 31}) {
		t.Errorf("Of(0, -2^63, 0) = %v", got)
	}
}

func TestDegree(t *testing.T) {
	for _, p := range polys() {
		if got, want := poly.Degree(p), len(values(p))-1; got != want {
			t.Errorf("Degree(%s) = %d; want %d", tell(p), got, want)
		}
	}
	for _, c := range []struct {
		p    []api.Big
		want int
	}{
		{nil, -1},
		{[]api.Big{}, -1},
		{[]api.Big{{}}, -1},
		{[]api.Big{{Neg: true}, {Neg: true, Digits: []uint32{0, 0}}}, -1},
		{[]api.Big{{Digits: []uint32{5}}}, 0},
		{[]api.Big{{Digits: []uint32{5}}, {Digits: []uint32{0}}}, 0},
		{[]api.Big{{}, {Digits: []uint32{0, 1}}}, 1},
		{append(make([]api.Big, 40), api.Big{Neg: true, Digits: []uint32{1}}), 40},
	} {
		if got := poly.Degree(c.p); got != c.want {
			t.Errorf("Degree(%v) = %d; want %d", c.p, got, c.want)
		}
	}
}

func TestSums(t *testing.T) {
	for _, p := range polys() {
		for _, q := range polys() {
			v, w := values(p), values(q)
			if got := poly.Add(p, q); !is(got, plus(v, w, 1)) {
				t.Fatalf("Add(%s, %s) = %v", tell(p), tell(q), got)
			}
			if got := poly.Sub(p, q); !is(got, plus(v, w, -1)) {
				t.Fatalf("Sub(%s, %s) = %v", tell(p), tell(q), got)
			}
			if got := poly.Mul(p, q); !is(got, times(v, w)) {
				t.Fatalf("Mul(%s, %s) = %v", tell(p), tell(q), got)
			}
		}
	}
}

// Where highest coefficients cancel out, the answer is shorter.
func TestSumsEdges(t *testing.T) {
	p, q := of(1, 2, 3), of(4, -2, -3)
	for i, c := range []struct{ got, want []api.Big }{
		{poly.Add(p, q), of(5)},
		{poly.Add(q, p), of(5)},
		{poly.Sub(p, p), nil},
		{poly.Sub(p, of(0, 2, 3)), of(1)},
		{poly.Sub(nil, p), of(-1, -2, -3)},
		{poly.Sub(p, nil), p},
		{poly.Add(nil, nil), nil},
		{poly.Add(odd(nil), odd(nil)), nil},
		{poly.Sub(odd(nil), odd(nil)), nil},
		{poly.Mul(odd(p), odd(nil)), nil},
		{poly.Mul(nil, p), nil},
		{poly.Mul(nil, nil), nil},
		{poly.Mul(of(1, 1), of(-1, 1)), of(-1, 0, 1)},
		{poly.Mul(of(0, 0, 2), of(0, -3)), of(0, 0, 0, -6)},
		{poly.Mul(of(2), of(-3)), of(-6)},
		{poly.Mul(of(1<<32, 1), of(-1<<32, 1)), []api.Big{{Neg: true, Digits: []uint32{0, 0, 1}}, {}, {Digits: []uint32{1}}}},
	} {
		if !is(c.got, values(c.want)) {
			t.Errorf("%d: %v; want %s", i, c.got, tell(c.want))
		}
	}
}

func TestDerive(t *testing.T) {
	for _, p := range polys() {
		v := values(p)
		want := blank(max(0, len(v)-1))
		for i := range want {
			want[i].Mul(v[i+1], exact.NewInt(int64(i+1)))
		}
		if got := poly.Derive(p); !is(got, want) {
			t.Errorf("Derive(%s) = %v", tell(p), got)
		}
	}
	for i, c := range []struct{ got, want []api.Big }{
		{poly.Derive(nil), nil},
		{poly.Derive(odd(nil)), nil},
		{poly.Derive(of(9)), nil},
		{poly.Derive(odd(of(9))), nil},
		{poly.Derive(of(9, -4)), of(-4)},
		{poly.Derive(of(1, 0, 5, 0, -2)), of(0, 10, 0, -8)},
	} {
		if !is(c.got, values(c.want)) {
			t.Errorf("%d: %v; want %s", i, c.got, tell(c.want))
		}
	}
}

func TestAt(t *testing.T) {
	for _, p := range polys() {
		for _, x := range ratios() {
			v := values(p)
			want := at(v, x)
			for range len(v) - 1 {
				want.Mul(want, new(exact.Rat).SetInt64(x.D))
			}
			got, e := poly.At(p, x)
			if e != api.OK || !want.IsInt() || got.Neg != (want.Sign() < 0) || !slices.Equal(got.Digits, whole(want.Num()).Digits) {
				t.Fatalf("At(%s, %v) = %v, %d; want %v", tell(p), x, got, e, want)
			}
		}
	}
}

func TestAtEdges(t *testing.T) {
	for _, c := range []struct {
		p    []api.Big
		x    api.Ratio
		want int64
	}{
		{nil, api.Ratio{N: 3, D: 7}, 0},
		{odd(nil), api.Ratio{N: 3, D: 7}, 0},
		{of(5), api.Ratio{N: 3, D: 7}, 5},
		// A coefficient that is 0 doesn't count for the degree.
		{of(5, 0, 0), api.Ratio{N: 3, D: 7}, 5},
		{odd(of(5, 1)), api.Ratio{N: 3, D: 7}, 38},
		{of(-1, 0, 4), api.Ratio{N: 1, D: 2}, 0},
		{of(-1, 0, 4), api.Ratio{N: -1, D: 2}, 0},
		{of(1, 1, 1), api.Ratio{N: -2, D: 3}, 7},
		{of(4, 3, 2), api.Ratio{N: 0, D: 1}, 4},
		{of(0, 0, 0, 1), api.Ratio{N: -2, D: 5}, -8},
		{of(0, 1), api.Ratio{N: least, D: 1}, least},
		{of(1, 0), api.Ratio{N: 1, D: most}, 1},
		{of(1, -1), api.Ratio{N: 1, D: most}, most - 1},
	} {
		got, e := poly.At(c.p, c.x)
		if e != api.OK || !is([]api.Big{got, whole(exact.NewInt(1))}, []*exact.Int{exact.NewInt(c.want), exact.NewInt(1)}) {
			t.Errorf("At(%s, %v) = %v, %d; want %d", tell(c.p), c.x, got, e, c.want)
		}
	}
}

func TestAtWrong(t *testing.T) {
	for _, x := range wrongs() {
		for _, p := range [][]api.Big{nil, odd(nil), of(1), of(-1, 0, 4)} {
			if got, e := poly.At(p, x); e != api.ErrArg || got.Neg || len(got.Digits) != 0 {
				t.Errorf("At(%s, %v) = %v, %d; want ErrArg", tell(p), x, got, e)
			}
		}
	}
}

func TestRest(t *testing.T) {
	for _, p := range polys() {
		for _, q := range polys() {
			got, e := poly.Rest(p, q)
			v, w := values(p), values(q)
			if len(w) == 0 {
				if len(got) != 0 || e != api.ErrZero {
					t.Fatalf("Rest(%s, %s) = %v, %d; want ErrZero", tell(p), tell(q), got, e)
				}
				continue
			}
			if e != api.OK || !is(got, rest(v, w)) || len(got) >= len(w) {
				t.Fatalf("Rest(%s, %s) = %v, %d", tell(p), tell(q), got, e)
			}
		}
	}
}

func TestRestEdges(t *testing.T) {
	for _, c := range []struct{ p, q, want []api.Big }{
		// The document's example.
		{of(0, 0, 1), of(1, 1), of(1)},
		{nil, of(1, 1), nil},
		{odd(nil), odd(of(1, 1)), nil},
		{nil, of(-4), nil},
		{of(7), of(1, 1), of(7)},
		{odd(of(7)), of(1, 1), of(7)},
		{of(7, 5), of(0, 0, -3), of(7, 5)},
		{of(7), of(-4), nil},
		{of(7, 1, 2), of(4), nil},
		{of(2, 4), of(2, 4), nil},
		// Each step takes the highest coefficient's absolute value in: here once and twice.
		{of(1, 1), of(1, 2), of(1)},
		{of(1, 0, 1), of(1, 2), of(5)},
		{of(1, 0, 1), of(-1, -2), of(5)},
		{of(1, 0, 1), of(1, -2), of(5)},
		{of(-1, 0, -1), of(1, -2), of(-5)},
		{of(1, 1), of(1, -2), of(3)},
		// One step falls by more than one power, so that no other one is made.
		{of(5, 0, 4), of(0, 2), of(10)},
		{of(5, 3, 0, 4), of(1, 0, 2), of(10, 2)},
		{of(5, 0, 0, 0, 3), of(0, 0, 3), of(15)},
		{of(1, 0, 0, 0, 0, 0, 2), of(1, 0, 0, 2), of(6)},
	} {
		if got, e := poly.Rest(c.p, c.q); e != api.OK || !is(got, values(c.want)) {
			t.Errorf("Rest(%s, %s) = %v, %d; want %s", tell(c.p), tell(c.q), got, e, tell(c.want))
		}
	}
	for _, zero := range [][]api.Big{nil, {}, of(0), of(0, 0), odd(nil)} {
		for _, p := range polys() {
			if got, e := poly.Rest(p, zero); e != api.ErrZero || len(got) != 0 {
				t.Errorf("Rest(%s, %v) = %v, %d; want ErrZero", tell(p), zero, got, e)
			}
		}
	}
}

// factor is D x - N.
func factor(x api.Ratio) []*exact.Int {
	return []*exact.Int{new(exact.Int).Neg(exact.NewInt(x.N)), exact.NewInt(x.D)}
}

// divided tells whether p is got times D x - N to the power often, with got not 0 at x.
func divided(p, got []api.Big, often int, x api.Ratio) bool {
	product := values(got)
	if often < 0 || often >= max(1, len(values(p))) || at(product, x).Sign() == 0 {
		return false
	}
	for range often {
		product = times(product, factor(x))
	}
	return is(got, values(got)) && len(cut(plus(product, values(p), -1))) == 0
}

func TestWithout(t *testing.T) {
	for _, p := range polys() {
		for _, x := range ratios() {
			got, often, e := poly.Without(p, x)
			if len(values(p)) == 0 {
				if len(got) != 0 || often != 0 || e != api.ErrZero {
					t.Fatalf("Without(%s, %v) = %v, %d, %d; want ErrZero", tell(p), x, got, often, e)
				}
				continue
			}
			if e != api.OK || !divided(p, got, often, x) {
				t.Fatalf("Without(%s, %v) = %v, %d, %d", tell(p), x, got, often, e)
			}
		}
	}
}

// What D x - N is taken into some times is without it again, in either form, however often it is in.
func TestWithoutMade(t *testing.T) {
	for _, l := range lists() {
		for _, x := range ratios() {
			v := values(of(l...))
			if len(v) == 0 || at(v, x).Sign() == 0 {
				continue
			}
			product := v
			for often := range 5 {
				var p []api.Big
				for _, c := range product {
					p = append(p, whole(c))
				}
				for _, form := range [][]api.Big{p, odd(p)} {
					if got, n, e := poly.Without(form, x); e != api.OK || n != often || !is(got, v) {
						t.Fatalf("Without(%s, %v) = %v, %d, %d; want %v, %d, 0", tell(form), x, got, n, e, l, often)
					}
				}
				product = times(product, factor(x))
			}
		}
	}
}

func TestWithoutEdges(t *testing.T) {
	zero, half := api.Ratio{N: 0, D: 1}, api.Ratio{N: 1, D: 2}
	for _, c := range []struct {
		p     []api.Big
		x     api.Ratio
		want  []api.Big
		often int
	}{
		// The document's example.
		{of(-1, 0, 4), half, of(1, 2), 1},
		{of(-1, 0, 4), api.Ratio{N: -1, D: 2}, of(-1, 2), 1},
		{of(-1, 0, 4), zero, of(-1, 0, 4), 0},
		{of(-1, 0, 4), api.Ratio{N: 1, D: 4}, of(-1, 0, 4), 0},
		{of(8), zero, of(8), 0},
		{odd(of(8)), half, of(8), 0},
		{of(0, 0, 0, 5), zero, of(5), 3},
		{of(0, 0, 3, 5), zero, of(3, 5), 2},
		{of(-2, 4), half, of(2), 1},
		{of(2, -4), half, of(-2), 1},
		{of(1, -2), half, of(-1), 1},
		// Each step but the last one goes without rest, or the first one alone doesn't.
		{of(1, 2), half, of(1, 2), 0},
		{of(-1, 1), half, of(-1, 1), 0},
		{of(0, -1, 2), half, of(0, 1), 1},
		{of(1, -4, 4), half, of(1), 2},
		{of(-1, 3, -3, 1), api.Ratio{N: 1, D: 1}, of(1), 3},
		{of(-1, 3, -3, 1), api.Ratio{N: -1, D: 1}, of(-1, 3, -3, 1), 0},
		{of(most, 1), api.Ratio{N: -most, D: 1}, of(1), 1},
		{of(1, most), api.Ratio{N: -1, D: most}, of(1), 1},
		{of(least, 1), api.Ratio{N: least, D: 1}, of(least, 1), 0},
	} {
		if got, often, e := poly.Without(c.p, c.x); e != api.OK || often != c.often || !is(got, values(c.want)) {
			t.Errorf("Without(%s, %v) = %v, %d, %d; want %s, %d, 0", tell(c.p), c.x, got, often, e, tell(c.want), c.often)
		}
	}
}

// A ratio that may not be is answered ahead of a p that is 0.
func TestWithoutWrong(t *testing.T) {
	for _, x := range wrongs() {
		for _, p := range [][]api.Big{nil, odd(nil), of(1), of(0, 1), of(-1, 0, 4)} {
			if got, often, e := poly.Without(p, x); e != api.ErrArg || often != 0 || len(got) != 0 {
				t.Errorf("Without(%s, %v) = %v, %d, %d; want ErrArg", tell(p), x, got, often, e)
			}
		}
	}
	for _, zero := range [][]api.Big{nil, {}, of(0), odd(nil)} {
		for _, x := range ratios() {
			if got, often, e := poly.Without(zero, x); e != api.ErrZero || often != 0 || len(got) != 0 {
				t.Errorf("Without(%v, %v) = %v, %d, %d; want ErrZero", zero, x, got, often, e)
			}
		}
	}
}

// MaxDegree is a limit of other layers: polynomials here are of any degree.
func TestLong(t *testing.T) {
	p := make([]int64, 200)
	for i := range p {
		p[i] = int64(i%7) - 3
	}
	p[199] = -2
	v := values(of(p...))
	if got := poly.Mul(of(p...), of(p...)); poly.Degree(got) != 398 || !is(got, times(v, v)) {
		t.Errorf("Mul: degree %d", poly.Degree(got))
	}
	q := of(1, -5, 3)
	if got, e := poly.Rest(of(p...), q); e != api.OK || !is(got, rest(v, values(q))) {
		t.Errorf("Rest = %v, %d", got, e)
	}
	x := api.Ratio{N: 0, D: 1}
	if got, often, e := poly.Without(append(make([]api.Big, 150), of(3)...), x); e != api.OK || often != 150 || !is(got, values(of(3))) {
		t.Errorf("Without = %v, %d, %d", got, often, e)
	}
}

// room is p with more memory behind it, and behind each of its coefficients, all of it filled.
func room(p []api.Big) []api.Big {
	out := make([]api.Big, 0, len(p)+2)
	for _, c := range p {
		out = append(out, api.Big{Neg: c.Neg, Digits: append(slices.Clone(c.Digits), 11, 12, 13)[:len(c.Digits)]})
	}
	return append(out, of(21, -22)...)[:len(p)]
}

// deep is a copy of p up to the end of its memory.
func deep(p []api.Big) []api.Big {
	var out []api.Big
	for _, c := range p[:cap(p)] {
		out = append(out, api.Big{Neg: c.Neg, Digits: slices.Clone(c.Digits[:cap(c.Digits)])})
	}
	return out
}

func alike(p, q []api.Big) bool {
	return slices.EqualFunc(p, q, func(a, b api.Big) bool {
		return a.Neg == b.Neg && slices.Equal(a.Digits, b.Digits)
	})
}

// answers are all that the package answers of two polynomials as polynomials.
func answers(p, q []api.Big) [][]api.Big {
	poly.Degree(p)
	out := [][]api.Big{poly.Add(p, q), poly.Sub(p, q), poly.Mul(p, q), poly.Derive(p), poly.Add(p, p), poly.Mul(p, p), poly.Add(p, nil), poly.Sub(nil, p)}
	left, _ := poly.Rest(p, q)
	out = append(out, left)
	for _, x := range []api.Ratio{{N: 0, D: 1}, {N: 1, D: 1}, {N: -1, D: 2}} {
		value, _ := poly.At(p, x)
		without, _, _ := poly.Without(p, x)
		out = append(out, []api.Big{value}, without)
	}
	return out
}

// spoil writes over all memory of each coefficient in turn, and tells whether no other one was changed by that.
func spoil(p []api.Big) bool {
	for i := range p {
		before := deep(p)
		digits := p[i].Digits[:cap(p[i].Digits)]
		for j := range digits {
			digits[j] = ^digits[j]
		}
		after := deep(p)
		before[i], after[i] = api.Big{}, api.Big{}
		if !alike(before, after) {
			return false
		}
	}
	for i := range p {
		p[i] = api.Big{Neg: true, Digits: []uint32{99}}
	}
	_ = append(p, api.Big{Neg: true})
	return true
}

// What is handed in is neither changed nor kept, up to the end of its memory, and no two coefficients of an answer share memory.
func TestMemory(t *testing.T) {
	for _, a := range polys() {
		for _, b := range polys() {
			p, q := room(a), room(b)
			v, w := deep(p), deep(q)
			first := answers(p, q)
			var told [][]api.Big
			for _, got := range first {
				told = append(told, deep(got[:len(got):len(got)]))
			}
			for i, got := range first {
				if !spoil(got) {
					t.Fatalf("of %s and %s, coefficients of answer %d share their memory", tell(a), tell(b), i)
				}
			}
			if !alike(deep(p), v) || !alike(deep(q), w) {
				t.Fatalf("of %s and %s one is changed", tell(a), tell(b))
			}
			for i, got := range answers(p, q) {
				if !alike(deep(got[:len(got):len(got)]), told[i]) {
					t.Fatalf("of %s and %s answer %d is another one", tell(a), tell(b), i)
				}
			}
		}
	}
}
