package wide_test

import (
	"math"
	"math/big"
	"testing"

	"pochoir/api"
	"pochoir/wide"
)

const most = math.MaxUint64

var (
	zero = api.Wide{}
	all  = api.Wide{Hi: most, Lo: most}
	// top is the first number above what fits.
	top = new(big.Int).Lsh(big.NewInt(1), 128)
)

// words are numbers of 64 bits at which carries and borrows begin and end.
func words() []uint64 {
	return []uint64{
		0, 1, 2, 3, 7, 10, 99, 100,
		1<<31 - 1, 1 << 31, 1<<32 - 1, 1 << 32, 1<<32 + 1,
		9_999_999_999_999_999_999, 10_000_000_000_000_000_000, 10_000_000_000_000_000_001,
		1<<63 - 1, 1 << 63, 1<<63 + 1, most - 1, most,
		0x0123456789abcdef, 0xfedcba9876543210,
	}
}

func wides() []api.Wide {
	var out []api.Wide
	for _, hi := range words() {
		for _, lo := range words() {
			out = append(out, api.Wide{Hi: hi, Lo: lo})
		}
	}
	return out
}

func shifts() []int {
	out := []int{math.MinInt, math.MinInt + 1, math.MinInt32, -1000, math.MaxInt32, math.MaxInt - 1, math.MaxInt, 1000}
	for n := -200; n <= 200; n++ {
		out = append(out, n)
	}
	return out
}

func word(n uint64) *big.Int {
	return new(big.Int).SetUint64(n)
}

func value(a api.Wide) *big.Int {
	v := new(big.Int).Lsh(word(a.Hi), 64)
	return v.Add(v, word(a.Lo))
}

// fit is what a call must answer whose exact answer is v.
func fit(v *big.Int) (api.Wide, api.Errno) {
	if v.Sign() < 0 || v.Cmp(top) >= 0 {
		return zero, api.ErrOver
	}
	lo := new(big.Int).And(v, word(most))
	return api.Wide{Hi: new(big.Int).Rsh(v, 64).Uint64(), Lo: lo.Uint64()}, api.OK
}

func TestOf(t *testing.T) {
	for _, n := range words() {
		if got := wide.Of(n); got != (api.Wide{Lo: n}) {
			t.Errorf("Of(%d) = %v", n, got)
		}
	}
}

func TestAddSubCmp(t *testing.T) {
	for _, a := range wides() {
		for _, b := range wides() {
			x, y := value(a), value(b)
			want, e := fit(new(big.Int).Add(x, y))
			if got, f := wide.Add(a, b); got != want || f != e {
				t.Fatalf("Add(%v, %v) = %v, %d; want %v, %d", a, b, got, f, want, e)
			}
			want, e = fit(new(big.Int).Sub(x, y))
			if got, f := wide.Sub(a, b); got != want || f != e {
				t.Fatalf("Sub(%v, %v) = %v, %d; want %v, %d", a, b, got, f, want, e)
			}
			if got := wide.Cmp(a, b); got != x.Cmp(y) {
				t.Fatalf("Cmp(%v, %v) = %d; want %d", a, b, got, x.Cmp(y))
			}
		}
	}
}

func TestAddEdges(t *testing.T) {
	for _, c := range []struct {
		a, b, want api.Wide
		e          api.Errno
	}{
		{zero, zero, zero, api.OK},
		{all, zero, all, api.OK},
		{zero, all, all, api.OK},
		{wide.Of(most), wide.Of(1), api.Wide{Hi: 1}, api.OK},
		{api.Wide{Hi: most, Lo: most - 1}, wide.Of(1), all, api.OK},
		{all, wide.Of(1), zero, api.ErrOver},
		{wide.Of(1), all, zero, api.ErrOver},
		{all, all, zero, api.ErrOver},
		{api.Wide{Hi: 1 << 63}, api.Wide{Hi: 1 << 63}, zero, api.ErrOver},
		{api.Wide{Hi: 1 << 63, Lo: 5}, api.Wide{Hi: 1 << 63, Lo: 6}, zero, api.ErrOver},
	} {
		if got, e := wide.Add(c.a, c.b); got != c.want || e != c.e {
			t.Errorf("Add(%v, %v) = %v, %d; want %v, %d", c.a, c.b, got, e, c.want, c.e)
		}
	}
}

func TestSubEdges(t *testing.T) {
	for _, c := range []struct {
		a, b, want api.Wide
		e          api.Errno
	}{
		{zero, zero, zero, api.OK},
		{all, all, zero, api.OK},
		{all, zero, all, api.OK},
		{api.Wide{Hi: 1}, wide.Of(1), wide.Of(most), api.OK},
		{zero, wide.Of(1), zero, api.ErrOver},
		{zero, all, zero, api.ErrOver},
		{wide.Of(most), api.Wide{Hi: 1}, zero, api.ErrOver},
		{api.Wide{Hi: 1, Lo: 0}, api.Wide{Hi: 1, Lo: 1}, zero, api.ErrOver},
	} {
		if got, e := wide.Sub(c.a, c.b); got != c.want || e != c.e {
			t.Errorf("Sub(%v, %v) = %v, %d; want %v, %d", c.a, c.b, got, e, c.want, c.e)
		}
	}
}

func TestMul(t *testing.T) {
	for _, a := range words() {
		for _, b := range words() {
			want, _ := fit(new(big.Int).Mul(word(a), word(b)))
			if got := wide.Mul(a, b); got != want {
				t.Errorf("Mul(%d, %d) = %v; want %v", a, b, got, want)
			}
		}
	}
	if got := wide.Mul(1<<63, 4); got != (api.Wide{Hi: 2}) || wide.Text(got) != "36893488147419103232" {
		t.Errorf("Mul(2^63, 4) = %v, %q", got, wide.Text(got))
	}
	if got := wide.Mul(most, most); got != (api.Wide{Hi: most - 1, Lo: 1}) {
		t.Errorf("the greatest product = %v", got)
	}
}

func TestScale(t *testing.T) {
	for _, a := range wides() {
		for _, n := range words() {
			want, e := fit(new(big.Int).Mul(value(a), word(n)))
			if got, f := wide.Scale(a, n); got != want || f != e {
				t.Fatalf("Scale(%v, %d) = %v, %d; want %v, %d", a, n, got, f, want, e)
			}
		}
	}
}

func TestScaleEdges(t *testing.T) {
	for _, c := range []struct {
		a    api.Wide
		n    uint64
		want api.Wide
		e    api.Errno
	}{
		{all, 0, zero, api.OK},
		{all, 1, all, api.OK},
		{zero, most, zero, api.OK},
		{api.Wide{Hi: 1, Lo: 1}, most, all, api.OK},
		{all, 2, zero, api.ErrOver},
		{api.Wide{Hi: 1 << 63}, 2, zero, api.ErrOver},
		// Of these the high product fits, and the carry alone is too great.
		{api.Wide{Hi: 1, Lo: 2}, most, zero, api.ErrOver},
		{api.Wide{Hi: 1, Lo: most}, most, zero, api.ErrOver},
	} {
		if got, e := wide.Scale(c.a, c.n); got != c.want || e != c.e {
			t.Errorf("Scale(%v, %d) = %v, %d; want %v, %d", c.a, c.n, got, e, c.want, c.e)
		}
	}
}

func TestDiv(t *testing.T) {
	for _, a := range wides() {
		for _, n := range words() {
			got, left, e := wide.Div(a, n)
			if n == 0 {
				if got != zero || left != 0 || e != api.ErrZero {
					t.Fatalf("Div(%v, 0) = %v, %d, %d", a, got, left, e)
				}
				continue
			}
			q, r := new(big.Int).QuoRem(value(a), word(n), new(big.Int))
			want, _ := fit(q)
			if got != want || left != r.Uint64() || e != api.OK {
				t.Fatalf("Div(%v, %d) = %v, %d, %d; want %v, %v, 0", a, n, got, left, e, want, r)
			}
		}
	}
}

func TestCmpEdges(t *testing.T) {
	for _, c := range []struct {
		a, b api.Wide
		want int
	}{
		{zero, zero, 0},
		{all, all, 0},
		{zero, wide.Of(1), -1},
		{wide.Of(1), zero, 1},
		{api.Wide{Hi: 1}, wide.Of(most), 1},
		{wide.Of(most), api.Wide{Hi: 1}, -1},
		{api.Wide{Hi: 2, Lo: 3}, api.Wide{Hi: 2, Lo: 4}, -1},
		{api.Wide{Hi: 2, Lo: 4}, api.Wide{Hi: 2, Lo: 3}, 1},
		{api.Wide{Hi: 1, Lo: 9}, api.Wide{Hi: 2, Lo: 0}, -1},
		{api.Wide{Hi: 2, Lo: 0}, api.Wide{Hi: 1, Lo: 9}, 1},
	} {
		if got := wide.Cmp(c.a, c.b); got != c.want {
			t.Errorf("Cmp(%v, %v) = %d; want %d", c.a, c.b, got, c.want)
		}
	}
}

// shifted is what Shift must answer, with n brought to a range in which the answers don't change any more.
func shifted(a api.Wide, n int) (api.Wide, api.Errno) {
	n = max(-300, min(n, 300))
	if n < 0 {
		return fit(new(big.Int).Rsh(value(a), uint(-n)))
	}
	return fit(new(big.Int).Lsh(value(a), uint(n)))
}

func TestShift(t *testing.T) {
	for _, a := range wides() {
		for _, n := range shifts() {
			want, e := shifted(a, n)
			if got, f := wide.Shift(a, n); got != want || f != e {
				t.Fatalf("Shift(%v, %d) = %v, %d; want %v, %d", a, n, got, f, want, e)
			}
		}
	}
}

func TestShiftEdges(t *testing.T) {
	one := wide.Of(1)
	for _, c := range []struct {
		a    api.Wide
		n    int
		want api.Wide
		e    api.Errno
	}{
		{all, 0, all, api.OK},
		{all, 1, zero, api.ErrOver},
		{all, -1, api.Wide{Hi: 1<<63 - 1, Lo: most}, api.OK},
		{all, -127, one, api.OK},
		{all, -128, zero, api.OK},
		{all, math.MinInt, zero, api.OK},
		{one, 63, wide.Of(1 << 63), api.OK},
		{one, 64, api.Wide{Hi: 1}, api.OK},
		{one, 127, api.Wide{Hi: 1 << 63}, api.OK},
		{one, 128, zero, api.ErrOver},
		{one, math.MaxInt, zero, api.ErrOver},
		{zero, math.MaxInt, zero, api.OK},
		{zero, math.MinInt, zero, api.OK},
		{api.Wide{Hi: 1}, 64, zero, api.ErrOver},
		{wide.Of(most), 64, api.Wide{Hi: most}, api.OK},
		{wide.Of(most), 65, zero, api.ErrOver},
	} {
		if got, e := wide.Shift(c.a, c.n); got != c.want || e != c.e {
			t.Errorf("Shift(%v, %d) = %v, %d; want %v, %d", c.a, c.n, got, e, c.want, c.e)
		}
	}
}

func TestBits(t *testing.T) {
	for _, a := range wides() {
		if got := wide.Bits(a); got != value(a).BitLen() {
			t.Fatalf("Bits(%v) = %d", a, got)
		}
	}
	for n := range 128 {
		a, _ := wide.Shift(wide.Of(1), n)
		if got := wide.Bits(a); got != n+1 {
			t.Errorf("Bits(2^%d) = %d", n, got)
		}
	}
	if wide.Bits(zero) != 0 || wide.Bits(all) != 128 {
		t.Errorf("Bits(0) = %d, Bits(2^128 - 1) = %d", wide.Bits(zero), wide.Bits(all))
	}
}

func TestText(t *testing.T) {
	for _, a := range wides() {
		if got := wide.Text(a); got != value(a).String() {
			t.Fatalf("Text(%v) = %q; want %v", a, got, value(a))
		}
	}
	// Powers of ten have zeros where the text's pieces meet.
	power := wide.Of(1)
	want := "1"
	for range 39 {
		if got := wide.Text(power); got != want {
			t.Errorf("Text = %q; want %q", got, want)
		}
		power, _ = wide.Scale(power, 10)
		want += "0"
	}
	if wide.Text(zero) != "0" || wide.Text(all) != "340282366920938463463374607431768211455" {
		t.Errorf("Text(0) = %q, Text(2^128 - 1) = %q", wide.Text(zero), wide.Text(all))
	}
}
