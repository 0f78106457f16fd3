package ratio_test

import (
	"math"
	exact "math/big"
	"strings"
	"testing"

	"pochoir/api"
	"pochoir/ratio"
)

const (
	least = math.MinInt64
	most  = math.MaxInt64
)

var zero = api.Ratio{}

// words are numbers of 64 bits with a sign: small ones, powers, primes near the ends, and such as share divisors.
func words() []int64 {
	out := []int64{0, least, least + 1, least + 2, most - 1, most}
	for _, n := range []int64{
		1, 2, 3, 4, 5, 6, 7, 12, 30, 1 << 20, 1<<31 - 1, 1 << 32, 1<<32 + 1, 3037000499, 3037000500,
		3 << 60, 1<<62 - 1, 1 << 62, 1<<62 + 1, 9223372036854775783, most / 7,
	} {
		out = append(out, n, -n)
	}
	return out
}

// made is n by d; it is for numbers of which New is tested, and that fit.
func made(n, d int64) api.Ratio {
	a, _ := ratio.New(n, d)
	return a
}

// ratios are all ratios that may be of the words.
func ratios() []api.Ratio {
	var out []api.Ratio
	seen := map[api.Ratio]bool{}
	for _, n := range words() {
		for _, d := range words() {
			if d == 0 {
				continue
			}
			if a, e := fit(exact.NewRat(1, 1).SetFrac64(n, d)); e == api.OK && !seen[a] {
				seen[a] = true
				out = append(out, a)
			}
		}
	}
	return out
}

// wrongs may not be.
func wrongs() []api.Ratio {
	return []api.Ratio{
		{}, {N: 1}, {N: -1}, {N: least}, {N: most},
		{N: 0, D: -1}, {N: 1, D: -1}, {N: -1, D: -1}, {N: 3, D: -2}, {N: 1, D: least}, {N: least, D: least}, {N: least, D: -1}, {N: 0, D: least}, {N: most, D: -most},
		{N: 0, D: 2}, {N: 0, D: 3}, {N: 0, D: most},
		{N: 2, D: 2}, {N: -2, D: 2}, {N: 6, D: 4}, {N: -6, D: 4}, {N: 4, D: 6}, {N: 10, D: 15}, {N: 3, D: 9}, {N: 9, D: 3}, {N: 1 << 62, D: 2}, {N: most, D: most}, {N: most, D: 7}, {N: -most, D: 49},
		{N: least, D: 2}, {N: least, D: 6}, {N: least, D: 1 << 62}, {N: least, D: 1<<62 + 2}, {N: least, D: most - 1},
	}
}

func value(a api.Ratio) *exact.Rat {
	return new(exact.Rat).SetFrac64(a.N, a.D)
}

// fit is what a call must answer whose exact answer is v.
func fit(v *exact.Rat) (api.Ratio, api.Errno) {
	if !v.Num().IsInt64() || !v.Denom().IsInt64() {
		return zero, api.ErrOver
	}
	return api.Ratio{N: v.Num().Int64(), D: v.Denom().Int64()}, api.OK
}

func TestNew(t *testing.T) {
	for _, n := range words() {
		for _, d := range words() {
			got, e := ratio.New(n, d)
			if d == 0 {
				if got != zero || e != api.ErrZero {
					t.Errorf("New(%d, 0) = %v, %d; want ErrZero", n, got, e)
				}
				continue
			}
			if want, f := fit(new(exact.Rat).SetFrac64(n, d)); got != want || e != f {
				t.Errorf("New(%d, %d) = %v, %d; want %v, %d", n, d, got, e, want, f)
			}
		}
	}
}

func TestNewEdges(t *testing.T) {
	for _, c := range []struct {
		n, d int64
		want api.Ratio
		e    api.Errno
	}{
		{6, -4, api.Ratio{N: -3, D: 2}, api.OK},
		{-6, 4, api.Ratio{N: -3, D: 2}, api.OK},
		{-6, -4, api.Ratio{N: 3, D: 2}, api.OK},
		{6, 4, api.Ratio{N: 3, D: 2}, api.OK},
		{5, 1, api.Ratio{N: 5, D: 1}, api.OK},
		{5, -1, api.Ratio{N: -5, D: 1}, api.OK},
		{0, 7, api.Ratio{N: 0, D: 1}, api.OK},
		{0, -7, api.Ratio{N: 0, D: 1}, api.OK},
		{0, least, api.Ratio{N: 0, D: 1}, api.OK},
		{0, 0, zero, api.ErrZero},
		{1, 0, zero, api.ErrZero},
		{least, 0, zero, api.ErrZero},
		{least, 1, api.Ratio{N: least, D: 1}, api.OK},
		{least, -1, zero, api.ErrOver},
		{least, 2, api.Ratio{N: -1 << 62, D: 1}, api.OK},
		{least, -2, api.Ratio{N: 1 << 62, D: 1}, api.OK},
		{least, -3, zero, api.ErrOver},
		{least, 3, api.Ratio{N: least, D: 3}, api.OK},
		{least, least, api.Ratio{N: 1, D: 1}, api.OK},
		{least, most, api.Ratio{N: least, D: most}, api.OK},
		{least, -most, zero, api.ErrOver},
		{1, least, zero, api.ErrOver},
		{-1, least, zero, api.ErrOver},
		{3, least, zero, api.ErrOver},
		{2, least, api.Ratio{N: -1, D: 1 << 62}, api.OK},
		{-2, least, api.Ratio{N: 1, D: 1 << 62}, api.OK},
		{1 << 62, least, api.Ratio{N: -1, D: 2}, api.OK},
		{most, least, zero, api.ErrOver},
		{most, -most, api.Ratio{N: -1, D: 1}, api.OK},
		{-most, most, api.Ratio{N: -1, D: 1}, api.OK},
		{most, 1, api.Ratio{N: most, D: 1}, api.OK},
		{1, most, api.Ratio{N: 1, D: most}, api.OK},
		{1, -most, api.Ratio{N: -1, D: most}, api.OK},
	} {
		if got, e := ratio.New(c.n, c.d); got != c.want || e != c.e {
			t.Errorf("New(%d, %d) = %v, %d; want %v, %d", c.n, c.d, got, e, c.want, c.e)
		}
	}
}

func TestMay(t *testing.T) {
	for _, a := range wrongs() {
		if ratio.May(a) {
			t.Errorf("May(%v)", a)
		}
	}
	for _, a := range ratios() {
		if !ratio.May(a) {
			t.Errorf("May(%v) = false", a)
		}
	}
	for _, a := range []api.Ratio{{N: 0, D: 1}, {N: least, D: 1}, {N: least, D: 3}, {N: least, D: most}, {N: 1, D: most}, {N: -1, D: most}, {N: most, D: 1}, {N: most, D: most - 1}, {N: -3, D: 2}} {
		if !ratio.May(a) {
			t.Errorf("May(%v) = false", a)
		}
	}
	for _, n := range words() {
		for _, d := range words() {
			want := d > 0 && new(exact.Int).GCD(nil, nil, new(exact.Int).Abs(exact.NewInt(n)), exact.NewInt(d)).Cmp(exact.NewInt(1)) == 0
			if got := ratio.May(api.Ratio{N: n, D: d}); got != want {
				t.Errorf("May(%d/%d) = %t", n, d, got)
			}
		}
	}
}

// reckon are the four calls that answer a ratio of two.
func reckon() []struct {
	name string
	call func(a, b api.Ratio) (api.Ratio, api.Errno)
	want func(z, a, b *exact.Rat) *exact.Rat
} {
	return []struct {
		name string
		call func(a, b api.Ratio) (api.Ratio, api.Errno)
		want func(z, a, b *exact.Rat) *exact.Rat
	}{
		{"Add", ratio.Add, (*exact.Rat).Add},
		{"Sub", ratio.Sub, (*exact.Rat).Sub},
		{"Mul", ratio.Mul, (*exact.Rat).Mul},
		{"Div", ratio.Div, (*exact.Rat).Quo},
	}
}

func TestReckon(t *testing.T) {
	all := ratios()
	for i, a := range all {
		// Each is held against some of the others, which are other ones each time: all of them would take too long.
		for j := i % 5; j < len(all); j += 5 {
			b := all[j]
			x, y := value(a), value(b)
			for _, c := range reckon() {
				if c.name == "Div" && b.N == 0 {
					continue
				}
				want, e := fit(c.want(new(exact.Rat), x, y))
				if got, f := c.call(a, b); got != want || f != e {
					t.Fatalf("%s(%v, %v) = %v, %d; want %v, %d", c.name, a, b, got, f, want, e)
				}
			}
			if got, e := ratio.Cmp(a, b); got != x.Cmp(y) || e != api.OK {
				t.Fatalf("Cmp(%v, %v) = %d, %d; want %d", a, b, got, e, x.Cmp(y))
			}
		}
	}
}

// All small ratios with all others: sums and products with every kind of divisor that is shared.
func TestReckonSmall(t *testing.T) {
	var all []api.Ratio
	for d := int64(1); d <= 12; d++ {
		for n := int64(-13); n <= 13; n++ {
			if a := made(n, d); a.D == d {
				all = append(all, a)
			}
		}
	}
	for _, a := range all {
		for _, b := range all {
			for _, c := range reckon() {
				if c.name == "Div" && b.N == 0 {
					continue
				}
				want, _ := fit(c.want(new(exact.Rat), value(a), value(b)))
				if got, e := c.call(a, b); got != want || e != api.OK {
					t.Fatalf("%s(%v, %v) = %v, %d; want %v", c.name, a, b, got, e, want)
				}
			}
		}
	}
}

// edge is a call of two ratios, and its answer.
type edge struct {
	a, b, want api.Ratio
	e          api.Errno
}

func hold(t *testing.T, name string, call func(a, b api.Ratio) (api.Ratio, api.Errno), edges []edge) {
	t.Helper()
	for _, c := range edges {
		if got, e := call(c.a, c.b); got != c.want || e != c.e {
			t.Errorf("%s(%v, %v) = %v, %d; want %v, %d", name, c.a, c.b, got, e, c.want, c.e)
		}
	}
}

func whole(n int64) api.Ratio {
	return api.Ratio{N: n, D: 1}
}

// 2^63 - 1 is divided by 7, and not by 2, 3 or 5.
func TestAddEdges(t *testing.T) {
	hold(t, "Add", ratio.Add, []edge{
		{made(1, 2), made(1, 3), made(5, 6), api.OK},
		{made(1, 2), made(1, 2), whole(1), api.OK},
		{made(1, 6), made(1, 10), made(4, 15), api.OK},
		{made(1, 2), made(-1, 2), whole(0), api.OK},
		{whole(0), made(-1, 2), made(-1, 2), api.OK},
		{whole(0), whole(0), whole(0), api.OK},
		{whole(least), whole(most), whole(-1), api.OK},
		{whole(most), whole(least), whole(-1), api.OK},
		{whole(most - 1), whole(1), whole(most), api.OK},
		{whole(least + 1), whole(-1), whole(least), api.OK},
		// These fit in lowest terms alone.
		{made(most, 2), made(most, 2), whole(most), api.OK},
		{made(least, 3), made(least+1, 3), whole(-6148914691236517205), api.OK},
		{made(most-1, most), made(most-6, most), api.Ratio{N: most/7*2 - 1, D: most / 7}, api.OK},
		{made(1-most, most), made(6-most, most), api.Ratio{N: 1 - most/7*2, D: most / 7}, api.OK},
		{made(1, 1<<62), made(1, 1<<62), made(1, 1<<61), api.OK},
		{made(1, 1<<62), made(-1, 1<<62), whole(0), api.OK},
		{made(1, most), made(-1, most), whole(0), api.OK},
		{made(1, most), made(6, most), made(1, most/7), api.OK},
		{made(least, most), made(1, most), whole(-1), api.OK},
		// These don't fit: N at either end, D, both.
		{whole(most), whole(1), zero, api.ErrOver},
		{whole(most), whole(most), zero, api.ErrOver},
		{whole(least), whole(-1), zero, api.ErrOver},
		{whole(least), whole(least), zero, api.ErrOver},
		{whole(most), made(1, 2), zero, api.ErrOver},
		{whole(least), made(1, 2), zero, api.ErrOver},
		{made(1, most), made(1, most-1), zero, api.ErrOver},
		{made(1, most), made(-1, most-1), zero, api.ErrOver},
		{made(1, 1<<62), made(1, 3), zero, api.ErrOver},
		{made(least, most), made(least, most-2), zero, api.ErrOver},
	})
}

func TestSubEdges(t *testing.T) {
	hold(t, "Sub", ratio.Sub, []edge{
		{made(1, 2), made(1, 3), made(1, 6), api.OK},
		{made(1, 3), made(1, 2), made(-1, 6), api.OK},
		{made(1, 2), made(1, 2), whole(0), api.OK},
		{whole(0), made(1, 2), made(-1, 2), api.OK},
		{whole(0), whole(0), whole(0), api.OK},
		{whole(0), whole(most), whole(-most), api.OK},
		// The least number can be taken away, though it has no counterpart.
		{whole(-1), whole(least), whole(most), api.OK},
		{whole(least), whole(least), whole(0), api.OK},
		{made(least, most), made(least, most), whole(0), api.OK},
		{whole(0), whole(least), zero, api.ErrOver},
		{whole(0), made(least, 3), zero, api.ErrOver},
		{made(most, 2), made(-most, 2), whole(most), api.OK},
		{made(most-1, most), made(6-most, most), api.Ratio{N: most/7*2 - 1, D: most / 7}, api.OK},
		{whole(-2), whole(most - 1), whole(least), api.OK},
		{whole(-2), whole(most), zero, api.ErrOver},
		{whole(most), whole(-1), zero, api.ErrOver},
		{whole(least), whole(1), zero, api.ErrOver},
		{whole(least), whole(most), zero, api.ErrOver},
		{whole(most), whole(least), zero, api.ErrOver},
		{made(1, most), made(1, most-1), zero, api.ErrOver},
	})
}

func TestMulEdges(t *testing.T) {
	hold(t, "Mul", ratio.Mul, []edge{
		{made(2, 3), made(3, 4), made(1, 2), api.OK},
		{made(-2, 3), made(3, 4), made(-1, 2), api.OK},
		{made(-2, 3), made(-3, 4), made(1, 2), api.OK},
		{whole(0), made(-3, 4), whole(0), api.OK},
		{made(-3, 4), whole(0), whole(0), api.OK},
		{whole(0), whole(0), whole(0), api.OK},
		{whole(least), whole(1), whole(least), api.OK},
		{whole(least), whole(0), whole(0), api.OK},
		{whole(1 << 62), whole(-2), whole(least), api.OK},
		{whole(-1 << 62), whole(2), whole(least), api.OK},
		{whole(most / 7), whole(7), whole(most), api.OK},
		{made(1, most/7), made(-1, 7), made(-1, most), api.OK},
		// These fit in lowest terms alone.
		{whole(least), made(-1, 2), whole(1 << 62), api.OK},
		{made(least, most), made(most, 1<<62), whole(-2), api.OK},
		{made(most, most-1), made(most-1, most), whole(1), api.OK},
		{made(least, most), made(-most, 2), whole(1 << 62), api.OK},
		// These don't fit: N at either end, D, both.
		{whole(1 << 62), whole(2), zero, api.ErrOver},
		{whole(-1 << 62), whole(-2), zero, api.ErrOver},
		{whole(least), whole(-1), zero, api.ErrOver},
		{whole(least), whole(least), zero, api.ErrOver},
		{whole(least), whole(2), zero, api.ErrOver},
		{whole(1 << 32), whole(1 << 32), zero, api.ErrOver},
		{whole(1<<32 + 1), whole(1 << 32), zero, api.ErrOver},
		{made(1, 1<<62), made(1, 2), zero, api.ErrOver},
		{made(1, 1<<32), made(1, 1<<32), zero, api.ErrOver},
		{made(1, 1<<32), made(1, 1<<32+1), zero, api.ErrOver},
		{made(least, most), made(least, most), zero, api.ErrOver},
	})
}

func TestDivEdges(t *testing.T) {
	hold(t, "Div", ratio.Div, []edge{
		{made(2, 3), made(4, 3), made(1, 2), api.OK},
		{made(-2, 3), made(4, 3), made(-1, 2), api.OK},
		{made(2, 3), made(-4, 3), made(-1, 2), api.OK},
		{made(-2, 3), made(-4, 3), made(1, 2), api.OK},
		{whole(0), made(-3, 4), whole(0), api.OK},
		{whole(0), whole(least), whole(0), api.OK},
		{whole(0), made(least, most), whole(0), api.OK},
		{whole(1), whole(0), zero, api.ErrZero},
		{whole(0), whole(0), zero, api.ErrZero},
		{whole(least), whole(0), zero, api.ErrZero},
		{made(least, most), whole(0), zero, api.ErrZero},
		{whole(least), whole(1), whole(least), api.OK},
		// These fit in lowest terms alone.
		{whole(least), whole(least), whole(1), api.OK},
		{whole(2), whole(least), made(-1, 1<<62), api.OK},
		{whole(-2), whole(least), made(1, 1<<62), api.OK},
		{whole(least), whole(-2), whole(1 << 62), api.OK},
		{made(least, most), made(least, most), whole(1), api.OK},
		{made(1, most), made(1, most), whole(1), api.OK},
		{made(most, 2), made(-1, 2), whole(-most), api.OK},
		{made(1<<62, 3), made(-1, 6), whole(least), api.OK},
		// These don't fit: N at either end, D, both.
		{whole(1), whole(least), zero, api.ErrOver},
		{whole(-1), whole(least), zero, api.ErrOver},
		{whole(least), whole(-1), zero, api.ErrOver},
		{whole(least), whole(-3), zero, api.ErrOver},
		{whole(most), whole(least), zero, api.ErrOver},
		{whole(most), made(1, 2), zero, api.ErrOver},
		{whole(least), made(1, 2), zero, api.ErrOver},
		{made(1<<62, 3), made(1, 6), zero, api.ErrOver},
		{made(1, most), whole(2), zero, api.ErrOver},
		{made(1, most), whole(most), zero, api.ErrOver},
		{made(most, 2), made(1, most), zero, api.ErrOver},
	})
}

func TestCmpEdges(t *testing.T) {
	for _, c := range []struct {
		a, b api.Ratio
		want int
	}{
		{whole(0), whole(0), 0},
		{made(1, 2), made(1, 2), 0},
		{made(1, 2), made(1, 3), 1},
		{made(1, 3), made(1, 2), -1},
		{made(-1, 2), made(-1, 3), -1},
		{made(-1, 3), made(-1, 2), 1},
		{made(-1, 3), made(1, 2), -1},
		{made(1, 2), made(-1, 3), 1},
		{whole(0), made(-1, 2), 1},
		{made(-1, 2), whole(0), -1},
		{whole(0), made(1, most), -1},
		{made(1, most), whole(0), 1},
		{made(-1, most), whole(0), -1},
		{whole(least), whole(most), -1},
		{whole(most), whole(least), 1},
		{whole(least), whole(least), 0},
		{whole(least), whole(least + 1), -1},
		// Of these the products are beyond 64 bits, and what is left of them there would mislead.
		{made(most, most-1), made(most-1, most-2), -1},
		{made(most-1, most-2), made(most, most-1), 1},
		{made(-most, most-1), made(1-most, most-2), 1},
		{made(most-2, most-1), made(most-1, most), -1},
		{made(least, most), made(-most, most-1), 1},
		{made(-most, most-1), made(least, most), -1},
		{made(least, most), made(least, most), 0},
		{whole(1 << 62), made(1, 4), 1},
		{made(1, 1<<62), made(1, 1<<62-1), -1},
		{whole(most), made(1, most), 1},
		{whole(least), made(-1, most), -1},
		{made(1, most), made(most, 2), -1},
		{made(5, 1<<62), made(1<<62-1, 1<<62), -1},
	} {
		if got, e := ratio.Cmp(c.a, c.b); got != c.want || e != api.OK {
			t.Errorf("Cmp(%v, %v) = %d, %d; want %d, 0", c.a, c.b, got, e, c.want)
		}
	}
}

// Whether both may be comes ahead of all else: of what doesn't fit, and of a b that is 0.
func TestReckonWrong(t *testing.T) {
	good := []api.Ratio{whole(0), whole(1), made(-3, 2), whole(least), whole(most), made(1, most), made(least, most)}
	for _, a := range wrongs() {
		for _, b := range append(good, wrongs()...) {
			for _, c := range reckon() {
				if got, e := c.call(a, b); got != zero || e != api.ErrArg {
					t.Errorf("%s(%v, %v) = %v, %d; want ErrArg", c.name, a, b, got, e)
				}
				if got, e := c.call(b, a); got != zero || e != api.ErrArg {
					t.Errorf("%s(%v, %v) = %v, %d; want ErrArg", c.name, b, a, got, e)
				}
			}
			if got, e := ratio.Cmp(a, b); got != 0 || e != api.ErrArg {
				t.Errorf("Cmp(%v, %v) = %d, %d; want ErrArg", a, b, got, e)
			}
			if got, e := ratio.Cmp(b, a); got != 0 || e != api.ErrArg {
				t.Errorf("Cmp(%v, %v) = %d, %d; want ErrArg", b, a, got, e)
			}
		}
	}
}

func TestOneWrong(t *testing.T) {
	for _, a := range wrongs() {
		if got, e := ratio.Floor(a); got != 0 || e != api.ErrArg {
			t.Errorf("Floor(%v) = %d, %d; want ErrArg", a, got, e)
		}
		if got, e := ratio.Round(a); got != 0 || e != api.ErrArg {
			t.Errorf("Round(%v) = %d, %d; want ErrArg", a, got, e)
		}
		if got, e := ratio.Text(a); got != "" || e != api.ErrArg {
			t.Errorf("Text(%v) = %q, %d; want ErrArg", a, got, e)
		}
	}
}

// floor is exact: Div of math/big rounds down, since D is above 0.
func floor(v *exact.Rat) int64 {
	return new(exact.Int).Div(v.Num(), v.Denom()).Int64()
}

func TestWhole(t *testing.T) {
	half := exact.NewRat(1, 2)
	for _, a := range ratios() {
		if got, e := ratio.Floor(a); got != floor(value(a)) || e != api.OK {
			t.Errorf("Floor(%v) = %d, %d; want %d", a, got, e, floor(value(a)))
		}
		want := floor(new(exact.Rat).Add(value(a), half))
		if got, e := ratio.Round(a); got != want || e != api.OK {
			t.Errorf("Round(%v) = %d, %d; want %d", a, got, e, want)
		}
	}
}

func TestWholeEdges(t *testing.T) {
	for _, c := range []struct {
		a           api.Ratio
		down, round int64
	}{
		{whole(0), 0, 0},
		{whole(5), 5, 5},
		{whole(-5), -5, -5},
		{made(1, 2), 0, 1},
		{made(-1, 2), -1, 0},
		{made(3, 2), 1, 2},
		{made(-3, 2), -2, -1},
		{made(5, 2), 2, 3},
		{made(-5, 2), -3, -2},
		{made(1, 3), 0, 0},
		{made(2, 3), 0, 1},
		{made(-1, 3), -1, 0},
		{made(-2, 3), -1, -1},
		{made(-4, 3), -2, -1},
		{made(-5, 3), -2, -2},
		{whole(most), most, most},
		{whole(least), least, least},
		{made(most, 2), 1<<62 - 1, 1 << 62},
		{made(-most, 2), -1 << 62, -1<<62 + 1},
		{made(least, 3), -3074457345618258603, -3074457345618258603},
		{made(least+1, 2), -1 << 62, -1<<62 + 1},
		{made(least, most), -2, -1},
		{made(most, most-1), 1, 1},
		{made(most-1, most), 0, 1},
		{made(1-most, most), -1, -1},
		{made(1, most), 0, 0},
		{made(-1, most), -1, 0},
		// Here twice what is left over is beyond 64 bits.
		{made(1<<62-1, most), 0, 0},
		{made(1<<62, most), 0, 1},
		{made(1-1<<62, most), -1, 0},
		{made(-1<<62, most), -1, -1},
	} {
		if got, e := ratio.Floor(c.a); got != c.down || e != api.OK {
			t.Errorf("Floor(%v) = %d, %d; want %d", c.a, got, e, c.down)
		}
		if got, e := ratio.Round(c.a); got != c.round || e != api.OK {
			t.Errorf("Round(%v) = %d, %d; want %d", c.a, got, e, c.round)
		}
	}
}

// texts are told of these ratios, and read as them.
func texts() map[string]api.Ratio {
	return map[string]api.Ratio{
		"0":                     {N: 0, D: 1},
		"1":                     {N: 1, D: 1},
		"-1":                    {N: -1, D: 1},
		"10":                    {N: 10, D: 1},
		"1/2":                   {N: 1, D: 2},
		"-3/2":                  {N: -3, D: 2},
		"7/10":                  {N: 7, D: 10},
		"1000000/3":             {N: 1000000, D: 3},
		"9223372036854775807":   {N: most, D: 1},
		"-9223372036854775808":  {N: least, D: 1},
		"1/9223372036854775807": {N: 1, D: most},
		"9223372036854775807/9223372036854775806":  {N: most, D: most - 1},
		"-9223372036854775808/9223372036854775807": {N: least, D: most},
	}
}

func TestText(t *testing.T) {
	for s, a := range texts() {
		if got, e := ratio.Text(a); got != s || e != api.OK {
			t.Errorf("Text(%v) = %q, %d; want %q", a, got, e, s)
		}
	}
	for _, a := range ratios() {
		want := value(a).RatString()
		if got, e := ratio.Text(a); got != want || e != api.OK {
			t.Errorf("Text(%v) = %q, %d; want %q", a, got, e, want)
		}
	}
}

func TestParse(t *testing.T) {
	for s, a := range texts() {
		if got, e := ratio.Parse(s); got != a || e != api.OK {
			t.Errorf("Parse(%q) = %v, %d; want %v", s, got, e, a)
		}
	}
}

func TestParseWrong(t *testing.T) {
	for _, s := range []string{
		"", "/", "-", "+", "-/", "/-", "1/", "/2", "-1/", "-/2", "1/-", "//", "1//2", "1/2/", "/1/2", "1/2/3",
		"2/4", "-2/4", "6/4", "10/15", "9/3", "2/2", "0/2", "0/3", "-0/2", "9223372036854775806/2", "-9223372036854775808/2", "9223372036854775807/9223372036854775807",
		"1/1", "0/1", "-1/1", "5/1", "-9223372036854775808/1", "1/0", "0/0", "-1/0", "9223372036854775807/0",
		"1/-2", "-1/-2", "1/+2", "1/-1", "1/-0", "0/-1",
		"-0", "+0", "00", "-00", "+1", "+1/2", "01", "-01", "007", "01/2", "1/02", "1/2 ", " 1/2", "1 /2", "1/ 2", "1 2", "--1", "-+1", "--1/2", "1-", "1/2-", "- 1",
		"9223372036854775808", "-9223372036854775809", "18446744073709551616", "18446744073709551617", "1/9223372036854775808", "1/18446744073709551619", "9223372036854775808/3", "-9223372036854775809/2",
		"9999999999999999999", "1/9999999999999999999", strings.Repeat("1", 40), "1/" + strings.Repeat("1", 38), strings.Repeat("0", 40), strings.Repeat("-", 40), strings.Repeat("/", 40),
		"1_000", "1,5", "1.5", "1e3", "0x10", "0b1", "0o7", "a", "1a", "1/a", "a/2", "1:2", "1\\2", "1\n", "\n", "1/2\n", "1\x00", "\x00", "\xff", "1/2\xb2", "٣", "１/２", "−1", "½", "1⁄2", "inf", "NaN",
	} {
		if got, e := ratio.Parse(s); got != zero || e != api.ErrForm {
			t.Errorf("Parse(%q) = %v, %d; want ErrForm", s, got, e)
		}
	}
}

// How long a text is comes ahead of its form.
func TestParseLong(t *testing.T) {
	for _, s := range []string{
		strings.Repeat("1", 41), strings.Repeat("0", 41), strings.Repeat("-", 41), strings.Repeat("/", 41), strings.Repeat(" ", 41), strings.Repeat("x", 41), strings.Repeat("٣", 21), strings.Repeat("1", 5000),
		"-9223372036854775808/9223372036854775807 ", "-9223372036854775808/09223372036854775807", "-9223372036854775808/92233720368547758070", "1/" + strings.Repeat("0", 38) + "2",
	} {
		if got, e := ratio.Parse(s); got != zero || e != api.ErrLong {
			t.Errorf("Parse of %d bytes, %q = %v, %d; want ErrLong", len(s), s, got, e)
		}
	}
}

func TestReadAsTold(t *testing.T) {
	for _, a := range ratios() {
		s, e := ratio.Text(a)
		got, f := ratio.Parse(s)
		if got != a || e != api.OK || f != api.OK {
			t.Fatalf("Parse(Text(%v)) = %v, %d, %d", a, got, e, f)
		}
		if again, _ := ratio.Text(got); again != s {
			t.Fatalf("Text(Parse(%q)) = %q", s, again)
		}
	}
}

// Of all short texts of these bytes those alone are read that are told of what is read.
func TestToldAsRead(t *testing.T) {
	list := []string{""}
	for range 5 {
		var longer []string
		for _, s := range list {
			for _, b := range []string{"0", "1", "2", "6", "-", "+", "/"} {
				longer = append(longer, s+b)
			}
		}
		list = longer
		for _, s := range list {
			got, e := ratio.Parse(s)
			want := lowest(s)
			if (e == api.OK) != want || e != api.OK && (got != zero || e != api.ErrForm) {
				t.Fatalf("Parse(%q) = %v, %d", s, got, e)
			}
			if told, _ := ratio.Text(got); want && told != s {
				t.Fatalf("Text(Parse(%q)) = %q", s, told)
			}
		}
	}
}

// lowest tells whether s is a ratio's text, by what math/big reads of it, and tells of that.
func lowest(s string) bool {
	v, ok := new(exact.Rat).SetString(s)
	return ok && v.RatString() == s
}
