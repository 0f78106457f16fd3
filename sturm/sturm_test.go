package sturm_test

import (
	exact "math/big"
	"math/rand"
	"slices"
	"testing"

	"pochoir/api"
	"pochoir/sturm"
)

// wrongs may not be.
func wrongs() []api.Ratio {
	return []api.Ratio{
		{}, {N: 1}, {N: -1}, {N: least}, {N: 1, D: -1}, {N: -1, D: -2}, {N: 0, D: -1}, {N: 1, D: least}, {N: least, D: least},
		{N: 0, D: 2}, {N: 0, D: most}, {N: 2, D: 2}, {N: 2, D: 4}, {N: -2, D: 4}, {N: 6, D: 3}, {N: most, D: most}, {N: least, D: 2},
	}
}

func zeros() [][]api.Big {
	return [][]api.Big{nil, {}, of(0), of(0, 0, 0), odd(nil), make([]api.Big, 20)}
}

// points are rising: those at the ends are too great for what must be found.
func points() []api.Ratio {
	return []api.Ratio{
		{N: least, D: 1}, {N: -most, D: 2}, {N: -4096, D: 1}, {N: -3, D: 1}, {N: -4095, D: 2048}, {N: -1, D: 1}, {N: -1, D: 2}, {N: -1, D: 4096},
		{N: 0, D: 1}, {N: 1, D: most}, {N: 1, D: 4095}, {N: 1, D: 3}, {N: 1, D: 2}, {N: 2, D: 3}, {N: 4095, D: 4096}, {N: 1, D: 1}, {N: 4096, D: 4095},
		{N: 1393, D: 985}, {N: 3363, D: 2378}, {N: 3, D: 2}, {N: 2, D: 1}, {N: 3, D: 1}, {N: 4096, D: 1}, {N: most, D: 2}, {N: most, D: 1},
	}
}

// few are some of the points, for what takes long.
func few() []api.Ratio {
	return []api.Ratio{{N: least, D: 1}, {N: -1, D: 1}, {N: 0, D: 1}, {N: 1, D: 3}, {N: 1, D: 2}, {N: 1, D: 1}, {N: 3363, D: 2378}, {N: 4096, D: 1}}
}

// near have numbers at which they are 0 that lie very near to each other.
func near() [][]api.Big {
	return [][]api.Big{
		of(-6, -57, -124, 71, 78), of(-6, 57, -124, -71, 78), of(-10, 70, -89, -128, 14), of(-2, 28, -89, -78, 99),
		of(39, -36, -127, 84, 84), of(77, 98, -92, -97, 26), of(-2, 32, -128, 0, 1), of(56, -97, 42),
		of(-8, 65, -124, -49, 66), of(14, -31, -56, 96, 62), of(75, -93, -75, 43, 62), of(13, -75, 121, -49, 36), of(51, -49, -90, 37, 66),
		of(23, -62, 39, -46, 78), of(62, 43, -75, -93, 75), of(31, 96, -112, -124, 112),
	}
}

// all are those of the three lists.
func all() [][]api.Big {
	return slices.Concat(polys(), great(), near())
}

// polys are of all degrees up to 12, with what they have once, and with what they have more often.
func polys() [][]api.Big {
	x, root, none := of(0, 1), of(-2, 0, 1), of(1, 0, 1)
	long := api.Big{Digits: slices.Repeat([]uint32{0xfedcba98}, 40)}
	return [][]api.Big{
		of(5), of(-3), x, of(0, -2), of(1, -1), of(-1, 3), of(127, -128), of(-4096, 1), of(most, least), of(least, most),
		root, of(2, 0, -1), of(-8, 0, 4), none, of(-1, 0, -1), of(1, 1, 1), of(-1, 0, 1), of(1, 0, -1),
		of(1, -2, 1), of(-1, 2, -1), of(1, -6, 9), of(-1, 3, -3, 1), of(1, -3, 3, -1),
		of(0, 0, 1), of(0, 0, -1), of(0, 0, 0, 1), of(0, 0, 0, -1), of(0, 0, 0, 0, 128), of(0, 0, 0, 0, -128), of(0, -1, 0, 1), of(0, 1, 0, -1),
		of(-6, 11, -6, 1), of(0, -6, 11, -6, 1), of(4, 0, -5, 0, 1), of(1, 0, 0, 0, 1), of(-1, 0, 0, 0, 1), of(127, -128, 127, -128, 127),
		power(root, 2), product(of(-1), power(root, 2)), power(none, 2), power(root, 3), product(of(-7), power(root, 3)),
		product(power(of(-1, 1), 2), power(of(1, 1), 3)), product(power(of(-1, 3), 2), of(-1, 2)), product(power(root, 2), of(-1, 1)), product(power(of(-1, 2), 4), none),
		product(power(of(-1, 3), 5), power(of(-2, 3), 4), of(-3, 0, 1)), product(power(x, 2), power(root, 4), of(-1, 1)), product(power(root, 4), power(of(-3, 0, 1), 2)),
		power(root, 6), power(of(-1, 1), 12), product(of(-1), power(of(-1, 2), 12)), power(none, 6), power(of(-1, 1, 0, 1), 4), product(power(root, 2), power(none, 4)),
		of(1, 0, 0, 0, 0, 0, 0, 0, 0, 0, 0, 0, -2),
		{whole(exact.NewInt(-1)), long}, {{Neg: true, Digits: long.Digits}, {}, long}, {long, {}, {}, {Neg: true, Digits: []uint32{1}}},
	}
}

// great have chains with coefficients of very many digits.
func great() [][]api.Big {
	steps := of(1)
	for i := range int64(12) {
		steps = product(steps, of(5-i, 2))
	}
	return [][]api.Big{of(-5, 3, 0, 1, 1, -7, 0, 0, 2, 0, 9, 0, -1), steps}
}

// chainOf is the chain by the document's words, of fractions that are whole.
func chainOf(p line) []line {
	chain := []line{p}
	for next := p.derived(); len(next) > 0; {
		ahead := p
		chain, p = append(chain, next), next
		top := next[len(next)-1]
		size := new(exact.Rat).Abs(top)
		for len(ahead) >= len(next) {
			shift := len(ahead) - len(next)
			by := new(exact.Rat).Set(ahead[len(ahead)-1])
			if top.Sign() < 0 {
				by.Neg(by)
			}
			var out line
			for i, c := range ahead {
				d := new(exact.Rat).Mul(c, size)
				if i >= shift {
					d.Sub(d, new(exact.Rat).Mul(next[i-shift], by))
				}
				out = append(out, d)
			}
			ahead = out.cut()
		}
		next = nil
		for _, c := range ahead {
			next = append(next, new(exact.Rat).Neg(c))
		}
	}
	return chain
}

// is tells whether p is v, in its one form.
func is(p []api.Big, v line) bool {
	if len(p) != len(v) {
		return false
	}
	for i, c := range p {
		n := len(c.Digits)
		if n == 0 && c.Neg || n > 0 && c.Digits[n-1] == 0 || new(exact.Rat).SetInt(number(c)).Cmp(v[i]) != 0 {
			return false
		}
	}
	return true
}

func isChain(chain [][]api.Big, want []line) bool {
	return slices.EqualFunc(chain, want, is)
}

func TestChain(t *testing.T) {
	for _, p := range all() {
		want := chainOf(lineOf(p))
		for _, form := range [][]api.Big{p, odd(p)} {
			if got, e := sturm.Chain(form); e != api.OK || !isChain(got, want) {
				t.Errorf("Chain(%s) = %d polynomials, %d; want %d", tell(form), len(got), e, len(want))
			}
		}
	}
	for _, c := range []struct {
		p    []api.Big
		want [][]api.Big
	}{
		{of(5), [][]api.Big{of(5)}},
		{of(-5), [][]api.Big{of(-5)}},
		{of(3, -4), [][]api.Big{of(3, -4), of(-4)}},
		{of(-2, 0, 1), [][]api.Big{of(-2, 0, 1), of(0, 2), of(4)}},
		{of(2, 0, -1), [][]api.Big{of(2, 0, -1), of(0, -2), of(-4)}},
		{of(1, 0, 1), [][]api.Big{of(1, 0, 1), of(0, 2), of(-2)}},
		{of(1, -2, 1), [][]api.Big{of(1, -2, 1), of(-2, 2)}},
		{of(0, 0, 0, 1), [][]api.Big{of(0, 0, 0, 1), of(0, 0, 3)}},
		{of(0, -1, 0, 1), [][]api.Big{of(0, -1, 0, 1), of(-1, 0, 3), of(0, 2), of(2)}},
		// The rest falls by more than one degree.
		{of(-1, 0, 0, 0, 1), [][]api.Big{of(-1, 0, 0, 0, 1), of(0, 0, 0, 4), of(4)}},
	} {
		got, e := sturm.Chain(c.p)
		if e != api.OK || !slices.EqualFunc(got, c.want, func(p, q []api.Big) bool { return is(p, lineOf(q)) }) {
			t.Errorf("Chain(%s) = %v, %d", tell(c.p), got, e)
		}
	}
}

// long has degree 13.
func long() []api.Big {
	return append(make([]api.Big, 13), of(1)...)
}

func TestChainWrong(t *testing.T) {
	for _, p := range zeros() {
		if got, e := sturm.Chain(p); len(got) != 0 || e != api.ErrZero {
			t.Errorf("Chain(%v) = %v, %d; want ErrZero", p, got, e)
		}
	}
	for _, p := range [][]api.Big{long(), odd(long()), append(make([]api.Big, 200), of(-1, 0)...)} {
		if got, e := sturm.Chain(p); len(got) != 0 || e != api.ErrLong {
			t.Errorf("Chain of degree 13 and above = %v, %d; want ErrLong", got, e)
		}
	}
	// Zeros at the top don't count for the degree.
	if got, e := sturm.Chain(append(append(make([]api.Big, 12), of(1)...), odd(nil)...)); len(got) != 2 || e != api.OK {
		t.Errorf("Chain of degree 12 = %v, %d", got, e)
	}
}

func TestChanges(t *testing.T) {
	for _, p := range all() {
		chain, _ := sturm.Chain(p)
		for _, x := range points() {
			want, ahead := 0, 0
			for _, q := range chain {
				s := lineOf(q).at(value(x)).Sign()
				if s*ahead < 0 {
					want++
				}
				if s != 0 {
					ahead = s
				}
			}
			if got, e := sturm.Changes(chain, x); got != want || e != api.OK {
				t.Errorf("Changes(%s .., %v) = %d, %d; want %d", tell(p), x, got, e, want)
			}
		}
	}
}

// A list need not be a chain.
func TestChangesOfAny(t *testing.T) {
	plus, minus, none := of(2), of(-3), of(0)
	for _, c := range []struct {
		list [][]api.Big
		x    api.Ratio
		want int
	}{
		{nil, api.Ratio{N: 1, D: 1}, 0},
		{[][]api.Big{}, api.Ratio{N: least, D: most}, 0},
		{[][]api.Big{nil}, api.Ratio{N: 0, D: 1}, 0},
		{[][]api.Big{nil, none, odd(nil)}, api.Ratio{N: 0, D: 1}, 0},
		{[][]api.Big{plus}, api.Ratio{N: 0, D: 1}, 0},
		{[][]api.Big{minus, minus}, api.Ratio{N: 0, D: 1}, 0},
		{[][]api.Big{plus, minus}, api.Ratio{N: 0, D: 1}, 1},
		{[][]api.Big{minus, plus}, api.Ratio{N: 0, D: 1}, 1},
		{[][]api.Big{plus, minus, plus, minus}, api.Ratio{N: 0, D: 1}, 3},
		{[][]api.Big{plus, none, minus}, api.Ratio{N: 0, D: 1}, 1},
		{[][]api.Big{plus, nil, none, plus}, api.Ratio{N: 0, D: 1}, 0},
		{[][]api.Big{none, minus, nil, nil, plus, none}, api.Ratio{N: 0, D: 1}, 1},
		{[][]api.Big{none, plus, none}, api.Ratio{N: 0, D: 1}, 0},
		{[][]api.Big{odd(plus), odd(minus), odd(of(0, 1))}, api.Ratio{N: 1, D: 2}, 2},
		{[][]api.Big{of(-1, 2), plus, minus}, api.Ratio{N: 1, D: 2}, 1},
		{[][]api.Big{of(-1, 2), plus, minus}, api.Ratio{N: 1, D: 3}, 2},
		{[][]api.Big{plus, of(-1, 2), minus}, api.Ratio{N: 1, D: 2}, 1},
		{[][]api.Big{of(0, 1), of(0, -1), of(0, 0, 1)}, api.Ratio{N: -1, D: most}, 1},
		{[][]api.Big{append(long(), of(1)...), of(-1)}, api.Ratio{N: 1, D: 1}, 1},
	} {
		if got, e := sturm.Changes(c.list, c.x); got != c.want || e != api.OK {
			t.Errorf("Changes(%v, %v) = %d, %d; want %d", c.list, c.x, got, e, c.want)
		}
	}
	for _, x := range wrongs() {
		for _, list := range [][][]api.Big{nil, {nil}, {plus, minus}} {
			if got, e := sturm.Changes(list, x); got != 0 || e != api.ErrArg {
				t.Errorf("Changes(%v, %v) = %d, %d; want ErrArg", list, x, got, e)
			}
		}
	}
}

// small tells whether x is N by D with numbers of up to 2^12.
func small(x api.Ratio) bool {
	return -4096 <= x.N && x.N <= 4096 && x.D <= 4096
}

// proper tells whether the spans are what they should be, once being what is 0 where the polynomial is.
func proper(got []api.Span, once line, a, b, width api.Ratio) bool {
	if len(got) != once.unlike(value(a), value(b)) {
		return false
	}
	ahead, met := value(a), true
	for _, s := range got {
		from, to := value(s.From), value(s.To)
		if exact.NewRat(s.From.N, s.From.D).Num().Int64() != s.From.N || exact.NewRat(s.To.N, s.To.D).Num().Int64() != s.To.N {
			return false
		}
		order := from.Cmp(ahead)
		switch point := from.Cmp(to) == 0; {
		case order < 0 || point && order == 0 && met:
			return false
		case point && once.at(from).Sign() != 0:
			return false
		case !point && (from.Cmp(to) > 0 || once.at(from).Sign() == 0 || once.at(to).Sign() == 0 || once.unlike(from, to) != 1):
			return false
		case new(exact.Rat).Sub(to, from).Cmp(value(width)) > 0:
			return false
		default:
			ahead, met = to, point
		}
	}
	last := ahead.Cmp(value(b))
	return last < 0 || last == 0 && (len(got) == 0 || !met)
}

func widths() []api.Ratio {
	return []api.Ratio{{N: 4096, D: 1}, {N: 1, D: 3}, {N: 1, D: 4096}, {N: most, D: 1}, {N: 1, D: 1 << 40}, {N: 1, D: most}}
}

// hold holds Count, Negative and Isolate of a and b, which is above it, against fractions. Isolate need find spans where must says so.
func hold(t *testing.T, p []api.Big, once line, a, b api.Ratio, widths []api.Ratio, must bool) {
	t.Helper()
	if got, e := sturm.Count(p, a, b); got != once.unlike(value(a), value(b)) || e != api.OK {
		t.Errorf("Count(%s, %v, %v) = %d, %d", tell(p), a, b, got, e)
	}
	below := false
	for _, x := range once.samples(value(a), value(b)) {
		below = below || lineOf(p).at(x).Sign() < 0
	}
	if got, e := sturm.Negative(p, a, b); got != below || e != api.OK {
		t.Errorf("Negative(%s, %v, %v) = %t, %d", tell(p), a, b, got, e)
	}
	for _, width := range widths {
		got, e := sturm.Isolate(p, a, b, width)
		must := must && small(width) && small(a) && small(b)
		if !(e == api.OK && proper(got, once, a, b, width) || e == api.ErrOver && len(got) == 0 && !must) {
			t.Errorf("Isolate(%s, %v, %v, %v) = %v, %d", tell(p), a, b, width, got, e)
		}
	}
}

func TestAll(t *testing.T) {
	for _, p := range polys() {
		once := lineOf(p).once()
		ends := points()
		if len(p) > 10 {
			ends = few()
		}
		for i, a := range ends {
			for j, b := range ends[i+1:] {
				hold(t, p, once, a, b, widths()[(i+j)%6:][:1], true)
			}
		}
	}
	for _, p := range great() {
		zero, one := api.Ratio{N: 0, D: 1}, api.Ratio{N: 1, D: 1}
		hold(t, p, lineOf(p).once(), api.Ratio{N: -5, D: 2}, one, []api.Ratio{{N: 1, D: 4096}}, true)
		hold(t, p, lineOf(p).once(), zero, api.Ratio{N: 4096, D: 1}, []api.Ratio{{N: 4096, D: 1}}, true)
	}
}

// These are found, though they are more than must be: ends, widths and coefficients are greater.
func TestIsolateMore(t *testing.T) {
	for _, c := range []struct {
		p           []api.Big
		a, b, width api.Ratio
		n           int
	}{
		{of(-2, 0, 1), api.Ratio{N: least, D: 1}, api.Ratio{N: most, D: 1}, api.Ratio{N: 1, D: 1 << 40}, 2},
		{of(-2, 0, 1), api.Ratio{N: least, D: most}, api.Ratio{N: most, D: 4}, api.Ratio{N: 1, D: 1 << 60}, 1},
		{of(0, 1), api.Ratio{N: -1, D: most}, api.Ratio{N: 1, D: most}, api.Ratio{N: 1, D: most}, 1},
		{of(-1, 1<<62), api.Ratio{N: 0, D: 1}, api.Ratio{N: 1, D: 1}, api.Ratio{N: 1, D: most}, 1},
		{of(-(1<<62 + 1<<61 + 5), 1), api.Ratio{N: 0, D: 1}, api.Ratio{N: most, D: 1}, api.Ratio{N: 1, D: 1}, 1},
		{of(1-most, 1), api.Ratio{N: least, D: 1}, api.Ratio{N: most, D: 1}, api.Ratio{N: 1, D: most}, 1},
		{of(most, 1), api.Ratio{N: least, D: 1}, api.Ratio{N: 0, D: 1}, api.Ratio{N: 1, D: most}, 1},
		{of(-most, 1), api.Ratio{N: 0, D: 1}, api.Ratio{N: most, D: 1}, api.Ratio{N: 1, D: most}, 0},
		{of(-1, 3), api.Ratio{N: 1, D: most}, api.Ratio{N: 1, D: 2}, api.Ratio{N: 1, D: 1}, 1},
	} {
		got, e := sturm.Isolate(c.p, c.a, c.b, c.width)
		if e != api.OK || len(got) != c.n || !proper(got, lineOf(c.p).once(), c.a, c.b, c.width) {
			t.Errorf("Isolate(%s, %v, %v, %v) = %v, %d", tell(c.p), c.a, c.b, c.width, got, e)
		}
	}
	// Of two numbers between which there is none of 64 bits no span can have one alone, but for its own point.
	p := product(of(2-most, most-1), of(1-most, most))
	a, b := api.Ratio{N: 0, D: 1}, api.Ratio{N: 1, D: 1}
	if got, e := sturm.Isolate(p, a, b, b); !(e == api.ErrOver && len(got) == 0 || e == api.OK && proper(got, lineOf(p), a, b, b)) {
		t.Errorf("Isolate(%s) = %v, %d", tell(p), got, e)
	}
}

// Where a polynomial is 0 at a or b that doesn't count, but it may be below 0 just beside it.
func TestEnds(t *testing.T) {
	zero, one, two := api.Ratio{N: 0, D: 1}, api.Ratio{N: 1, D: 1}, api.Ratio{N: 2, D: 1}
	for _, c := range []struct {
		p     []api.Big
		a, b  api.Ratio
		n     int
		below bool
	}{
		// The document's example.
		{of(-2, 0, 1), zero, two, 1, true},
		{of(2, 0, -1), zero, two, 1, true},
		{of(2, 0, -1), zero, one, 0, false},
		{of(5), zero, one, 0, false},
		{of(-5), zero, one, 0, true},
		{of(0, 1), zero, one, 0, false},
		{of(0, -1), zero, one, 0, true},
		{of(-1, 1), zero, one, 0, true},
		{of(1, -1), zero, one, 0, false},
		{of(0, 0, 1), zero, one, 0, false},
		{of(0, 0, -1), zero, one, 0, true},
		{of(0, -1, 1), zero, one, 0, true},
		{of(0, 1, -1), zero, one, 0, false},
		{of(0, 2, -3, 1), zero, two, 1, true},
		{of(0, 1, -2, 1), zero, two, 1, false},
		{of(0, -1, 2, -1), zero, two, 1, true},
		{of(1, -2, 1), zero, two, 1, false},
		{of(1, -2, 1), one, two, 0, false},
		{of(1, -2, 1), zero, one, 0, false},
		{of(-1, 2, -1), zero, two, 1, true},
		{of(-1, 3, -3, 1), zero, two, 1, true},
		{of(-1, 3, -3, 1), one, two, 0, false},
		{of(1, -3, 3, -1), zero, one, 0, false},
		{of(1, -3, 3, -1), one, two, 0, true},
		// It is 0 twice, and above 0 beside that; then three times, with its sign changing.
		{power(of(-2, 0, 1), 2), zero, two, 1, false},
		{power(of(-2, 0, 1), 3), zero, two, 1, true},
		{product(power(of(-1, 2), 2), power(of(-2, 3), 2)), zero, one, 2, false},
		{product(of(-1, 2), of(-2, 3)), zero, one, 2, true},
		{product(power(of(-1, 2), 3), power(of(-2, 3), 3)), zero, one, 2, true},
		{product(power(of(-1, 2), 4), power(of(-2, 3), 6), of(1, 0, 1)), zero, one, 2, false},
		{product(power(of(-1, 2), 5), power(of(-2, 3), 7)), zero, one, 2, true},
	} {
		for _, p := range [][]api.Big{c.p, odd(c.p)} {
			if got, e := sturm.Count(p, c.a, c.b); got != c.n || e != api.OK {
				t.Errorf("Count(%s, %v, %v) = %d, %d; want %d", tell(p), c.a, c.b, got, e, c.n)
			}
			if got, e := sturm.Negative(p, c.a, c.b); got != c.below || e != api.OK {
				t.Errorf("Negative(%s, %v, %v) = %t, %d; want %t", tell(p), c.a, c.b, got, e, c.below)
			}
			width := api.Ratio{N: 1, D: 4096}
			if got, e := sturm.Isolate(p, c.a, c.b, width); len(got) != c.n || e != api.OK || !proper(got, lineOf(c.p).once(), c.a, c.b, width) {
				t.Errorf("Isolate(%s, %v, %v) = %v, %d; want %d", tell(p), c.a, c.b, got, e, c.n)
			}
		}
	}
}

// Polynomials that must be isolated, and ends that are 0 of them, or lie hard beside that.
func TestNear(t *testing.T) {
	ends := []api.Ratio{
		{N: 8, D: 33}, {N: 14, D: 31}, {N: 25, D: 31}, {N: 13, D: 36}, {N: 17, D: 22}, {N: 23, D: 39}, {N: 31, D: 25}, {N: 31, D: 28}, {N: 6, D: 7}, {N: 7, D: 8},
		{N: 1, D: 8}, {N: 511, D: 4096}, {N: 513, D: 4096}, {N: -4096, D: 1}, {N: 4096, D: 1}, {N: 837, D: 4090}, {N: 838, D: 4095}, {N: 4095, D: 4096},
	}
	for _, p := range near() {
		once := lineOf(p).once()
		for i, a := range ends {
			for j, b := range ends {
				if value(a).Cmp(value(b)) < 0 {
					hold(t, p, once, a, b, []api.Ratio{{N: 4096, D: 1}, {N: 1, D: 4096}}[(i+j)%2:][:1], true)
				}
			}
		}
	}
}

// some is a number that isn't too great, of few digits or of many.
func some(r *rand.Rand) api.Ratio {
	d := r.Int63n(4096) + 1
	if r.Intn(2) == 0 {
		d = r.Int63n(6) + 1
	}
	x := exact.NewRat(r.Int63n(4*d+1)-2*d, d)
	if r.Intn(8) == 0 {
		x = exact.NewRat(r.Int63n(8193)-4096, d)
	}
	return api.Ratio{N: x.Num().Int64(), D: x.Denom().Int64()}
}

// pick has a degree of at most 4, and coefficients from -128 to 127.
func pick(r *rand.Rand) []api.Big {
	for {
		var p []api.Big
		for range r.Intn(3) + 1 {
			l := make([]int64, r.Intn(3)+1)
			for i := range l {
				l[i] = r.Int63n(17) - 8
			}
			p = append(p, product(of(l...), p)...)
		}
		if r.Intn(2) == 0 {
			p = power(of(r.Int63n(7)-3, r.Int63n(4)+1), 2)
			p = product(p, of(r.Int63n(9)-4, r.Int63n(9)-4, r.Int63n(3)))
		}
		fits := len(lineOf(p)) > 0 && len(lineOf(p)) <= 5
		for _, c := range p {
			n := number(c).Int64()
			fits = fits && -128 <= n && n <= 127
		}
		if fits {
			return p
		}
	}
}

func TestMust(t *testing.T) {
	r := rand.New(rand.NewSource(6))
	for range 3000 {
		p, a, b, width := pick(r), some(r), some(r), some(r)
		if value(a).Cmp(value(b)) > 0 {
			a, b = b, a
		}
		if width.N < 0 {
			width.N = -width.N
		}
		if a == b || width.N == 0 {
			continue
		}
		hold(t, p, lineOf(p).once(), a, b, []api.Ratio{width, {N: 1, D: 4096}}, true)
	}
}

// What a and b are comes ahead of p, and width, too; that p is 0 or long comes behind.
func TestErrors(t *testing.T) {
	zero, one := api.Ratio{N: 0, D: 1}, api.Ratio{N: 1, D: 1}
	check := func(p []api.Big, a, b, width api.Ratio, want, wide api.Errno) {
		t.Helper()
		if got, e := sturm.Count(p, a, b); got != 0 || e != want {
			t.Errorf("Count(%s, %v, %v) = %d, %d; want %d", tell(p), a, b, got, e, want)
		}
		if got, e := sturm.Negative(p, a, b); got || e != want {
			t.Errorf("Negative(%s, %v, %v) = %t, %d; want %d", tell(p), a, b, got, e, want)
		}
		if got, e := sturm.Isolate(p, a, b, width); len(got) != 0 || e != wide {
			t.Errorf("Isolate(%s, %v, %v, %v) = %v, %d; want %d", tell(p), a, b, width, got, e, wide)
		}
	}
	lists := append(zeros(), long(), odd(long()), of(-1), of(-1, 2), of(-2, 0, 1))
	for _, p := range lists {
		for _, x := range wrongs() {
			check(p, x, one, one, api.ErrArg, api.ErrArg)
			check(p, zero, x, one, api.ErrArg, api.ErrArg)
			check(p, x, x, x, api.ErrArg, api.ErrArg)
		}
		for i, a := range points() {
			for _, b := range points()[:i+1] {
				check(p, a, b, one, api.ErrArg, api.ErrArg)
			}
		}
	}
	for _, p := range zeros() {
		check(p, zero, one, one, api.ErrZero, api.ErrZero)
	}
	for _, p := range [][]api.Big{long(), odd(long()), append(make([]api.Big, 200), of(-1, 0)...)} {
		check(p, zero, one, one, api.ErrLong, api.ErrLong)
	}
	for _, width := range append(wrongs(), zero, api.Ratio{N: -1, D: 1}, api.Ratio{N: -1, D: most}, api.Ratio{N: least, D: 1}) {
		for _, p := range zeros() {
			check(p, zero, one, width, api.ErrZero, api.ErrArg)
		}
		check(long(), zero, one, width, api.ErrLong, api.ErrArg)
		if got, e := sturm.Isolate(of(-1, 2), zero, one, width); len(got) != 0 || e != api.ErrArg {
			t.Errorf("Isolate of width %v = %v, %d; want ErrArg", width, got, e)
		}
	}
}

// deep is a copy of p up to the end of its memory.
func deep(p []api.Big) []api.Big {
	var out []api.Big
	for _, c := range p[:cap(p)] {
		out = append(out, api.Big{Neg: c.Neg, Digits: slices.Clone(c.Digits[:cap(c.Digits)])})
	}
	return out
}

func alike(p, q []api.Big) bool {
	return slices.EqualFunc(p, q, func(a, b api.Big) bool {
		return a.Neg == b.Neg && slices.Equal(a.Digits, b.Digits)
	})
}

// room is p with more memory behind it, and behind each of its coefficients, all of it filled.
func room(p []api.Big) []api.Big {
	out := make([]api.Big, 0, len(p)+2)
	for _, c := range p {
		out = append(out, api.Big{Neg: c.Neg, Digits: append(slices.Clone(c.Digits), 11, 12, 13)[:len(c.Digits)]})
	}
	return append(out, of(21, -22)...)[:len(p)]
}

// spoil writes over all of p's memory.
func spoil(p []api.Big) {
	for i, c := range p {
		for j := range c.Digits[:cap(c.Digits)] {
			c.Digits[:cap(c.Digits)][j] ^= 0xffffffff
		}
		p[i] = api.Big{Neg: true, Digits: []uint32{99}}
	}
}

// What is handed in is neither changed nor kept, up to the end of its memory, and no two polynomials of a chain share memory.
func TestMemory(t *testing.T) {
	a, b, width := api.Ratio{N: -3, D: 1}, api.Ratio{N: 3, D: 1}, api.Ratio{N: 1, D: 100}
	for _, form := range all() {
		p := room(form)
		before := deep(p)
		want := chainOf(lineOf(form))
		chain, _ := sturm.Chain(p)
		list := [][]api.Big{p, room(of(1)), p}
		sturm.Changes(list, a)
		sturm.Count(p, a, b)
		sturm.Negative(p, a, b)
		first, _ := sturm.Isolate(p, a, b, width)
		second, _ := sturm.Isolate(p, a, b, width)
		kept := slices.Clone(second)
		for i := range first {
			first[i] = api.Span{}
		}
		if third, _ := sturm.Isolate(p, a, b, width); !slices.Equal(second, kept) || !slices.Equal(third, kept) {
			t.Errorf("Isolate(%s) answers other spans", tell(form))
		}
		for i := range chain {
			for j := i; j < len(chain); j++ {
				if !is(chain[j], want[j]) {
					t.Fatalf("in the chain of %s polynomial %d shares memory", tell(form), j)
				}
			}
			spoil(chain[i])
		}
		if !alike(deep(p), before) {
			t.Errorf("%s is changed", tell(form))
		}
		again, _ := sturm.Chain(p)
		spoil(p)
		if !isChain(again, want) {
			t.Errorf("the chain of %s keeps what was handed in", tell(form))
		}
	}
}
