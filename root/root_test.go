package root_test

import (
	"math"
	exact "math/big"
	"testing"

	"pochoir/api"
	"pochoir/root"
	"pochoir/wide"
)

const (
	most = math.MaxUint64
	// half is the greatest number whose square fits into 64 bits.
	half = math.MaxUint32
)

var (
	zero = api.Wide{}
	all  = api.Wide{Hi: most, Lo: most}
)

// words are numbers of 64 bits: all small ones, and those about powers of 2, and about what such numbers' roots are.
func words() []uint64 {
	out := []uint64{10_000_000_000_000_000_000, 0x0123456789abcdef, 0xfedcba9876543210, 3037000499, 3037000500, 13043817825332782212, 13043817825332782213}
	for n := uint64(0); n < 20; n++ {
		out = append(out, n)
	}
	for i := 5; i < 64; i++ {
		out = append(out, 1<<i-1, 1<<i, 1<<i+1)
	}
	return append(out, most-2, most-1, most)
}

// squares are Wides about squares, where roots change.
func squares() []api.Wide {
	out := []api.Wide{zero, all}
	for _, r := range words() {
		n := wide.Mul(r, r)
		out = append(out, n)
		if less, e := wide.Sub(n, wide.Of(1)); e == api.OK {
			out = append(out, less)
		}
		for _, more := range []api.Wide{wide.Of(1), wide.Of(2), wide.Of(r), wide.Mul(2, r), wide.Mul(3, r)} {
			if above, e := wide.Add(n, more); e == api.OK {
				out = append(out, above)
			}
		}
	}
	return out
}

// some are fewer Wides, for tests that take each one with each other one.
func some() []api.Wide {
	var out []api.Wide
	few := []uint64{0, 1, 2, 3, 4, 10, 1<<31 + 1, half - 1, half, 1 << 32, 1<<32 + 1, 1 << 62, 1<<63 - 1, 1 << 63, most - 1, most}
	for _, hi := range few {
		for _, lo := range few {
			out = append(out, api.Wide{Hi: hi, Lo: lo})
		}
	}
	return out
}

func word(n uint64) *exact.Int {
	return new(exact.Int).SetUint64(n)
}

func value(a api.Wide) *exact.Int {
	v := new(exact.Int).Lsh(word(a.Hi), 64)
	return v.Add(v, word(a.Lo))
}

// times is r times r times d.
func times(r, d *exact.Int) *exact.Int {
	v := new(exact.Int).Mul(r, r)
	return v.Mul(v, d)
}

func TestFloor(t *testing.T) {
	check := func(n uint64) {
		if got, want := root.Floor(n), new(exact.Int).Sqrt(word(n)).Uint64(); got != want {
			t.Errorf("Floor(%d) = %d; want %d", n, got, want)
		}
	}
	for n := uint64(0); n < 5000; n++ {
		check(n)
	}
	for _, n := range words() {
		check(n)
	}
	for _, n := range squares() {
		check(n.Lo)
	}
}

func TestFloorEdges(t *testing.T) {
	for _, c := range []struct{ n, want uint64 }{
		{0, 0}, {1, 1}, {2, 1}, {3, 1}, {4, 2}, {8, 2}, {9, 3}, {15, 3}, {16, 4}, {24, 4}, {25, 5}, {35, 5}, {36, 6},
		{1<<62 - 1, 1<<31 - 1}, {1 << 62, 1 << 31}, {1<<63 - 1, 3037000499}, {1 << 63, 3037000499},
		{half*half - 1, half - 1}, {half * half, half}, {half*half + 1, half}, {most - 1, half}, {most, half},
	} {
		if got := root.Floor(c.n); got != c.want {
			t.Errorf("Floor(%d) = %d; want %d", c.n, got, c.want)
		}
	}
}

func TestWideWhole(t *testing.T) {
	for _, n := range append(squares(), some()...) {
		v := value(n)
		r := new(exact.Int).Sqrt(v)
		if got := root.Wide(n); got != r.Uint64() {
			t.Errorf("Wide(%v) = %d; want %d", n, got, r)
		}
		if got, want := root.Whole(n), times(r, word(1)).Cmp(v) == 0; got != want {
			t.Errorf("Whole(%v) = %t", n, got)
		}
	}
}

func TestWideWholeEdges(t *testing.T) {
	for _, c := range []struct {
		n     api.Wide
		want  uint64
		whole bool
	}{
		{zero, 0, true},
		{wide.Of(1), 1, true},
		{wide.Of(2), 1, false},
		{wide.Of(3), 1, false},
		{wide.Of(4), 2, true},
		{wide.Of(24), 4, false},
		{wide.Of(25), 5, true},
		{wide.Of(26), 5, false},
		{wide.Of(most), half, false},
		{api.Wide{Hi: 1}, 1 << 32, true},
		{api.Wide{Hi: 1, Lo: 1}, 1 << 32, false},
		{api.Wide{Hi: 2}, 6074000999, false},
		{api.Wide{Hi: 4}, 1 << 33, true},
		// The squares of most, and of the numbers beside it.
		{api.Wide{Hi: most - 3, Lo: 4}, most - 1, true},
		{api.Wide{Hi: most - 1}, most - 1, false},
		{api.Wide{Hi: most - 1, Lo: 1}, most, true},
		{api.Wide{Hi: most - 1, Lo: 2}, most, false},
		{all, most, false},
	} {
		if got := root.Wide(c.n); got != c.want {
			t.Errorf("Wide(%v) = %d; want %d", c.n, got, c.want)
		}
		if got := root.Whole(c.n); got != c.whole {
			t.Errorf("Whole(%v) = %t", c.n, got)
		}
	}
}

// Powers of 2 are squares just if the power is even.
func TestWholePowers(t *testing.T) {
	for i := 0; i < 128; i++ {
		n, _ := wide.Shift(wide.Of(1), i)
		if got := root.Whole(n); got != (i%2 == 0) {
			t.Errorf("Whole(2^%d) = %t", i, got)
		}
		if got := root.Wide(n); i%2 == 0 && got != 1<<(i/2) {
			t.Errorf("Wide(2^%d) = %d", i, got)
		}
	}
}

// wantRatio is what Ratio must answer.
func wantRatio(n, d api.Wide) (uint64, api.Errno) {
	if d == zero {
		return 0, api.ErrZero
	}
	// The root of n by d rounded down is the root of n by d.
	r := new(exact.Int).Quo(value(n), value(d))
	if r.Sqrt(r).BitLen() > 32 {
		return 0, api.ErrOver
	}
	return r.Uint64(), api.OK
}

func checkRatio(t *testing.T, n, d api.Wide) {
	t.Helper()
	want, e := wantRatio(n, d)
	if got, f := root.Ratio(n, d); got != want || f != e {
		t.Errorf("Ratio(%v, %v) = %d, %d; want %d, %d", n, d, got, f, want, e)
	}
}

func TestRatio(t *testing.T) {
	for _, n := range some() {
		for _, d := range some() {
			checkRatio(t, n, d)
		}
	}
	for n := uint64(0); n < 200; n++ {
		for d := uint64(0); d < 200; d++ {
			checkRatio(t, wide.Of(n), wide.Of(d))
		}
	}
}

// Each n here is about r times r times d, where the root changes.
func TestRatioSteps(t *testing.T) {
	for _, r := range []uint64{1, 2, 3, 255, 1 << 16, 1<<31 - 1, 1 << 31, half - 1, half, 1 << 32, 1<<32 + 1} {
		for _, d := range append(some(), wide.Of(5), wide.Of(1<<20)) {
			v := times(word(r), value(d))
			if d == zero || v.BitLen() > 128 {
				continue
			}
			n := api.Wide{Hi: new(exact.Int).Rsh(v, 64).Uint64(), Lo: new(exact.Int).And(v, word(most)).Uint64()}
			checkRatio(t, n, d)
			less, _ := wide.Sub(n, wide.Of(1))
			checkRatio(t, less, d)
			if more, e := wide.Add(n, wide.Of(1)); e == api.OK {
				checkRatio(t, more, d)
			}
		}
	}
}

func TestRatioEdges(t *testing.T) {
	for _, c := range []struct {
		n, d api.Wide
		want uint64
		e    api.Errno
	}{
		{wide.Of(50), wide.Of(2), 5, api.OK},
		{wide.Of(49), wide.Of(2), 4, api.OK},
		{wide.Of(24), wide.Of(1), 4, api.OK},
		{zero, wide.Of(1), 0, api.OK},
		{zero, all, 0, api.OK},
		{wide.Of(6), wide.Of(7), 0, api.OK},
		{wide.Of(7), wide.Of(7), 1, api.OK},
		{all, all, 1, api.OK},
		{api.Wide{Hi: most, Lo: most - 1}, all, 0, api.OK},
		{api.Wide{Hi: 1 << 63}, api.Wide{Hi: 1 << 61}, 2, api.OK},
		{zero, zero, 0, api.ErrZero},
		{wide.Of(1), zero, 0, api.ErrZero},
		{all, zero, 0, api.ErrZero},
		{wide.Of(most), wide.Of(1), half, api.OK},
		{api.Wide{Hi: 1}, wide.Of(1), 0, api.ErrOver},
		{api.Wide{Hi: 1}, wide.Of(2), 3037000499, api.OK},
		{api.Wide{Hi: 6, Lo: most}, wide.Of(7), half, api.OK},
		{api.Wide{Hi: 7}, wide.Of(7), 0, api.ErrOver},
		{api.Wide{Hi: most - 1, Lo: most}, wide.Of(most), half, api.OK},
		{api.Wide{Hi: most}, wide.Of(most), 0, api.ErrOver},
		{all, wide.Of(most), 0, api.ErrOver},
		{all, wide.Of(1), 0, api.ErrOver},
		{all, api.Wide{Hi: 1}, half, api.OK},
		{all, api.Wide{Hi: 1, Lo: 1}, half, api.OK},
	} {
		if got, e := root.Ratio(c.n, c.d); got != c.want || e != c.e {
			t.Errorf("Ratio(%v, %v) = %d, %d; want %d, %d", c.n, c.d, got, e, c.want, c.e)
		}
	}
}

func TestBelow(t *testing.T) {
	for _, r := range []uint64{0, 1, 2, 3, 5, 1<<31 + 1, half, 1 << 32, 1<<32 + 1, 1 << 63, most - 1, most} {
		for _, d := range some() {
			product := times(word(r), value(d))
			for _, n := range some() {
				if got, want := root.Below(r, n, d), product.Cmp(value(n)) <= 0; got != want {
					t.Fatalf("Below(%d, %v, %v) = %t", r, n, d, got)
				}
			}
		}
	}
}

func TestBelowEdges(t *testing.T) {
	for _, c := range []struct {
		r    uint64
		n, d api.Wide
		want bool
	}{
		{5, wide.Of(50), wide.Of(2), true},
		{5, wide.Of(49), wide.Of(2), false},
		{6, wide.Of(50), wide.Of(2), false},
		// Of nothing, and of nothing's times.
		{0, zero, zero, true},
		{0, zero, all, true},
		{most, zero, zero, true},
		{1, zero, wide.Of(1), false},
		{1, all, all, true},
		{1, api.Wide{Hi: most, Lo: most - 1}, all, false},
		// Products that end at 2^128, or go round to little there.
		{2, all, all, false},
		{2, all, api.Wide{Hi: 1<<62 - 1, Lo: most}, true},
		{2, all, api.Wide{Hi: 1 << 62}, false},
		{2, zero, api.Wide{Hi: 1 << 62}, false},
		{1 << 32, all, wide.Of(most), true},
		{1 << 32, all, api.Wide{Hi: 1}, false},
		{1 << 32, zero, api.Wide{Hi: 1}, false},
		{1 << 32, api.Wide{Hi: 1, Lo: most}, api.Wide{Hi: 1, Lo: 1}, false},
		{half, all, api.Wide{Hi: 1}, true},
		{half, all, api.Wide{Hi: 1, Lo: 1 << 33}, true},
		{most, all, wide.Of(1), true},
		{most, api.Wide{Hi: most - 1, Lo: 1}, wide.Of(1), true},
		{most, api.Wide{Hi: most - 1}, wide.Of(1), false},
		{most, all, wide.Of(2), false},
		{most, all, all, false},
		{most, zero, all, false},
		{1 << 63, all, wide.Of(3), true},
		{1 << 63, all, wide.Of(4), false},
		{1 << 63, zero, wide.Of(4), false},
	} {
		if got := root.Below(c.r, c.n, c.d); got != c.want {
			t.Errorf("Below(%d, %v, %v) = %t", c.r, c.n, c.d, got)
		}
	}
}
