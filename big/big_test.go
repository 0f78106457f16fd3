package big_test

import (
	"math"
	exact "math/big"
	"slices"
	"strings"
	"testing"

	"pochoir/api"
	"pochoir/big"
)

const most = math.MaxUint32

// words are numbers of 64 bits with a sign at which digits and signs begin and end.
func words() []int64 {
	out := []int64{0, math.MinInt64, math.MinInt64 + 1, math.MinInt64 + 2, math.MaxInt64 - 1, math.MaxInt64}
	for _, n := range []int64{
		1, 2, 3, 7, 9, 10, 99, 1000, 1<<31 - 1, 1 << 31, 1<<31 + 1, 1<<32 - 1, 1 << 32, 1<<32 + 1,
		1<<33 - 1, 1<<62 - 1, 1 << 62, 1<<62 + 1, 999_999_999_999_999_999, 1_000_000_000_000_000_000, 0x0123456789abcdef,
	} {
		out = append(out, n, -n)
	}
	return out
}

// lists are digits, the lowest first, of which some end with zeros, and some have nothing but zeros.
func lists() [][]uint32 {
	return [][]uint32{
		nil, {}, {0}, {0, 0, 0},
		{1}, {1, 0}, {1, 0, 0, 0}, {9}, {10}, {most}, {most, 0}, {1 << 31},
		{0, 1}, {0, 1, 0}, {most - 1, 1}, {most, most}, {most, most, 0, 0}, {0, 1 << 31}, {1, 1 << 31}, {most, 1<<31 - 1},
		{0, 0, 1}, {1, 0, 1}, {most, most, most}, {0, 0, 1 << 31}, {0x89abcdef, 0x01234567, 0xdeadbeef, 0},
		// 10^19 and its neighbours: where the pieces of a text meet.
		{2313682943, 2328306436}, {2313682944, 2328306436}, {2313682945, 2328306436},
		slices.Repeat([]uint32{most}, 9), append(make([]uint32, 9), 1), slices.Repeat([]uint32{0xfedcba98, 1}, 10),
	}
}

// bigs are those of the lists with either sign, in their one form and in others; zeros that say Neg are among them.
func bigs() []api.Big {
	var out []api.Big
	for _, x := range lists() {
		out = append(out, api.Big{Digits: x}, api.Big{Neg: true, Digits: x})
	}
	return out
}

func value(a api.Big) *exact.Int {
	v := new(exact.Int)
	for i := len(a.Digits) - 1; i >= 0; i-- {
		v.Lsh(v, 32)
		v.Add(v, exact.NewInt(int64(a.Digits[i])))
	}
	if a.Neg {
		v.Neg(v)
	}
	return v
}

// inForm tells whether a is in its one form.
func inForm(a api.Big) bool {
	n := len(a.Digits)
	return n == 0 && !a.Neg || n > 0 && a.Digits[n-1] != 0
}

// is tells whether a is v, in its one form.
func is(a api.Big, v *exact.Int) bool {
	return inForm(a) && value(a).Cmp(v) == 0
}

func same(a, b api.Big) bool {
	return a.Neg == b.Neg && slices.Equal(a.Digits, b.Digits)
}

func TestOf(t *testing.T) {
	for _, n := range words() {
		if got := big.Of(n); !is(got, exact.NewInt(n)) {
			t.Errorf("Of(%d) = %v", n, got)
		}
	}
	for _, c := range []struct {
		n    int64
		want api.Big
	}{
		{0, api.Big{}},
		{1, api.Big{Digits: []uint32{1}}},
		{-1, api.Big{Neg: true, Digits: []uint32{1}}},
		{most, api.Big{Digits: []uint32{most}}},
		{-most - 1, api.Big{Neg: true, Digits: []uint32{0, 1}}},
		{math.MaxInt64, api.Big{Digits: []uint32{most, most >> 1}}},
		{math.MinInt64, api.Big{Neg: true, Digits: []uint32{0, 1 << 31}}},
		{math.MinInt64 + 1, api.Big{Neg: true, Digits: []uint32{most, most >> 1}}},
	} {
		if got := big.Of(c.n); !same(got, c.want) {
			t.Errorf("Of(%d) = %v; want %v", c.n, got, c.want)
		}
	}
}

func TestOfTwo(t *testing.T) {
	for _, a := range bigs() {
		for _, b := range bigs() {
			x, y := value(a), value(b)
			if got, want := big.Add(a, b), new(exact.Int).Add(x, y); !is(got, want) {
				t.Fatalf("Add(%v, %v) = %v; want %v", a, b, got, want)
			}
			if got, want := big.Sub(a, b), new(exact.Int).Sub(x, y); !is(got, want) {
				t.Fatalf("Sub(%v, %v) = %v; want %v", a, b, got, want)
			}
			if got, want := big.Mul(a, b), new(exact.Int).Mul(x, y); !is(got, want) {
				t.Fatalf("Mul(%v, %v) = %v; want %v", a, b, got, want)
			}
			if got, want := big.Cmp(a, b), x.Cmp(y); got != want {
				t.Fatalf("Cmp(%v, %v) = %d; want %d", a, b, got, want)
			}
		}
	}
}

func TestOfOne(t *testing.T) {
	for _, a := range bigs() {
		x := value(a)
		if got := big.Neg(a); !is(got, new(exact.Int).Neg(x)) {
			t.Errorf("Neg(%v) = %v", a, got)
		}
		if got := big.Sign(a); got != x.Sign() {
			t.Errorf("Sign(%v) = %d; want %d", a, got, x.Sign())
		}
		if got := big.Bits(a); got != x.BitLen() {
			t.Errorf("Bits(%v) = %d; want %d", a, got, x.BitLen())
		}
		if got := big.Text(a); got != x.String() {
			t.Errorf("Text(%v) = %q; want %v", a, got, x)
		}
	}
}

// Whatever is 0 counts as 0, and is answered as the one 0.
func TestZeros(t *testing.T) {
	five := api.Big{Digits: []uint32{5}}
	minus := api.Big{Neg: true, Digits: []uint32{5}}
	for _, zero := range []api.Big{{}, {Neg: true}, {Neg: true, Digits: []uint32{}}, {Digits: []uint32{0}}, {Neg: true, Digits: []uint32{0}}, {Neg: true, Digits: []uint32{0, 0, 0}}} {
		div, left, e := big.Div(zero, -7)
		if left != 0 || e != api.OK {
			t.Errorf("Div(%v, -7) leaves %d, %d", zero, left, e)
		}
		for i, got := range []api.Big{
			div, big.Neg(zero), big.Add(zero, zero), big.Sub(zero, zero), big.Mul(zero, zero),
			big.Mul(zero, minus), big.Mul(minus, zero), big.Mul(zero, five), big.Shift(zero, 33),
			big.Add(five, minus), big.Add(minus, five), big.Sub(minus, minus), big.Sub(five, five),
		} {
			if got.Neg || len(got.Digits) != 0 {
				t.Errorf("of %v, answer %d = %v", zero, i, got)
			}
		}
		for i, got := range []api.Big{big.Add(zero, minus), big.Add(minus, zero), big.Sub(minus, zero), big.Sub(zero, five), big.Neg(five)} {
			if !same(got, minus) {
				t.Errorf("of %v, answer %d = %v; want -5", zero, i, got)
			}
		}
		small, ok := big.Small(zero)
		if small != 0 || !ok || big.Sign(zero) != 0 || big.Bits(zero) != 0 || big.Text(zero) != "0" {
			t.Errorf("of %v: %d, %t, %d, %d, %q", zero, small, ok, big.Sign(zero), big.Bits(zero), big.Text(zero))
		}
		if big.Cmp(zero, api.Big{}) != 0 || big.Cmp(api.Big{}, zero) != 0 || big.Cmp(zero, minus) != 1 || big.Cmp(zero, five) != -1 || big.Cmp(minus, zero) != -1 || big.Cmp(five, zero) != 1 {
			t.Errorf("Cmp of %v", zero)
		}
	}
}

func TestExample(t *testing.T) {
	got := big.Mul(big.Of(-1<<62), big.Of(4))
	if want := (api.Big{Neg: true, Digits: []uint32{0, 0, 1}}); !same(got, want) || big.Text(got) != "-18446744073709551616" {
		t.Errorf("Mul(-2^62, 4) = %v, %q", got, big.Text(got))
	}
}

func TestCmpEdges(t *testing.T) {
	for _, c := range []struct {
		a, b api.Big
		want int
	}{
		{api.Big{Digits: []uint32{most}}, api.Big{Digits: []uint32{0, 1}}, -1},
		{api.Big{Digits: []uint32{0, 1}}, api.Big{Digits: []uint32{most}}, 1},
		{api.Big{Neg: true, Digits: []uint32{most}}, api.Big{Neg: true, Digits: []uint32{0, 1}}, 1},
		{api.Big{Neg: true, Digits: []uint32{0, 1}}, api.Big{Neg: true, Digits: []uint32{most}}, -1},
		{api.Big{Neg: true, Digits: []uint32{0, 1}}, api.Big{Digits: []uint32{1}}, -1},
		{api.Big{Digits: []uint32{1}}, api.Big{Neg: true, Digits: []uint32{0, 1}}, 1},
		{api.Big{Digits: []uint32{9, 2}}, api.Big{Digits: []uint32{1, 3}}, -1},
		{api.Big{Digits: []uint32{7, 3}}, api.Big{Digits: []uint32{8, 3}}, -1},
		{api.Big{Digits: []uint32{7, 0, 0}}, api.Big{Digits: []uint32{7}}, 0},
		{api.Big{Digits: []uint32{7, 0, 0}}, api.Big{Digits: []uint32{8, 0}}, -1},
		{api.Big{Neg: true, Digits: []uint32{7, 0}}, api.Big{Neg: true, Digits: []uint32{7}}, 0},
	} {
		if got := big.Cmp(c.a, c.b); got != c.want {
			t.Errorf("Cmp(%v, %v) = %d; want %d", c.a, c.b, got, c.want)
		}
	}
}

func shifts() []int {
	out := []int{math.MinInt, math.MinInt + 1, math.MinInt32, -4096, -64, -33, -32, -2, -1, 1000, 4064, 4065, 4094, 4095, 4096, 4097, 4128, 5000, math.MaxInt32, math.MaxInt - 1, math.MaxInt}
	for n := range 130 {
		out = append(out, n)
	}
	return out
}

func TestShift(t *testing.T) {
	for _, a := range bigs() {
		for _, n := range shifts() {
			want := new(exact.Int).Lsh(value(a), uint(max(0, min(n, 4096))))
			if got := big.Shift(a, n); !is(got, want) {
				t.Fatalf("Shift(%v, %d) = %v; want %v", a, n, got, want)
			}
		}
	}
	one := big.Of(1)
	for _, c := range []struct{ n, bits int }{{math.MinInt, 1}, {-1, 1}, {0, 1}, {1, 2}, {31, 32}, {32, 33}, {4095, 4096}, {4096, 4097}, {4097, 4097}, {math.MaxInt, 4097}} {
		if got := big.Bits(big.Shift(one, c.n)); got != c.bits {
			t.Errorf("Bits(Shift(1, %d)) = %d; want %d", c.n, got, c.bits)
		}
	}
}

func TestBits(t *testing.T) {
	for n := range 100 {
		power := big.Shift(big.Of(1), n)
		if got := big.Bits(power); got != n+1 {
			t.Errorf("Bits(2^%d) = %d", n, got)
		}
		if got := big.Bits(big.Neg(power)); got != n+1 {
			t.Errorf("Bits(-2^%d) = %d", n, got)
		}
		if got := big.Bits(big.Sub(power, big.Of(1))); got != n {
			t.Errorf("Bits(2^%d - 1) = %d", n, got)
		}
	}
}

func TestSmall(t *testing.T) {
	for _, n := range words() {
		if got, ok := big.Small(big.Of(n)); got != n || !ok {
			t.Errorf("Small(%d) = %d, %t", n, got, ok)
		}
	}
	for _, a := range bigs() {
		want, fits := int64(0), value(a).IsInt64()
		if fits {
			want = value(a).Int64()
		}
		if got, ok := big.Small(a); got != want || ok != fits {
			t.Errorf("Small(%v) = %d, %t; want %d, %t", a, got, ok, want, fits)
		}
	}
}

func TestSmallEdges(t *testing.T) {
	for _, c := range []struct {
		a    api.Big
		want int64
		ok   bool
	}{
		{api.Big{Digits: []uint32{most - 1, most >> 1}}, math.MaxInt64 - 1, true},
		{api.Big{Digits: []uint32{most, most >> 1}}, math.MaxInt64, true},
		{api.Big{Digits: []uint32{most, most >> 1, 0, 0}}, math.MaxInt64, true},
		{api.Big{Digits: []uint32{0, 1 << 31}}, 0, false},
		{api.Big{Digits: []uint32{1, 1 << 31}}, 0, false},
		{api.Big{Digits: []uint32{5, 0, 1}}, 0, false},
		{api.Big{Neg: true, Digits: []uint32{most, most >> 1}}, math.MinInt64 + 1, true},
		{api.Big{Neg: true, Digits: []uint32{0, 1 << 31}}, math.MinInt64, true},
		{api.Big{Neg: true, Digits: []uint32{0, 1 << 31, 0}}, math.MinInt64, true},
		{api.Big{Neg: true, Digits: []uint32{1, 1 << 31}}, 0, false},
		{api.Big{Neg: true, Digits: []uint32{most, most}}, 0, false},
		{api.Big{Neg: true, Digits: []uint32{5, 0, 1}}, 0, false},
	} {
		if got, ok := big.Small(c.a); got != c.want || ok != c.ok {
			t.Errorf("Small(%v) = %d, %t; want %d, %t", c.a, got, ok, c.want, c.ok)
		}
	}
}

func TestDiv(t *testing.T) {
	for _, a := range bigs() {
		for _, n := range words() {
			got, left, e := big.Div(a, n)
			if n == 0 {
				if !same(got, api.Big{}) || left != 0 || e != api.ErrZero {
					t.Fatalf("Div(%v, 0) = %v, %d, %d", a, got, left, e)
				}
				continue
			}
			// Quo and Rem round towards 0.
			q, r := new(exact.Int).QuoRem(value(a), exact.NewInt(n), new(exact.Int))
			if !is(got, q) || left != r.Int64() || e != api.OK {
				t.Fatalf("Div(%v, %d) = %v, %d, %d; want %v, %v, 0", a, n, got, left, e, q, r)
			}
		}
	}
}

func TestDivEdges(t *testing.T) {
	least := big.Of(math.MinInt64)
	for _, c := range []struct {
		a    api.Big
		n    int64
		want string
		left int64
	}{
		{big.Of(7), 2, "3", 1},
		{big.Of(-7), 2, "-3", -1},
		{big.Of(7), -2, "-3", 1},
		{big.Of(-7), -2, "3", -1},
		{big.Of(-6), 2, "-3", 0},
		{big.Of(-1), 2, "0", -1},
		{big.Of(1), -2, "0", 1},
		{big.Of(5), -1, "-5", 0},
		{least, -1, "9223372036854775808", 0},
		{least, 1, "-9223372036854775808", 0},
		{least, math.MinInt64, "1", 0},
		{least, math.MaxInt64, "-1", -1},
		{big.Of(math.MinInt64 + 1), math.MinInt64, "0", math.MinInt64 + 1},
		{big.Of(math.MaxInt64), math.MinInt64, "0", math.MaxInt64},
		{big.Neg(least), math.MinInt64, "-1", 0},
		{big.Sub(big.Shift(big.Of(1), 128), big.Of(1)), math.MinInt64, "-36893488147419103231", math.MaxInt64},
	} {
		if got, left, e := big.Div(c.a, c.n); big.Text(got) != c.want || !inForm(got) || left != c.left || e != api.OK {
			t.Errorf("Div(%s, %d) = %v, %d, %d; want %s, %d, 0", big.Text(c.a), c.n, got, left, e, c.want, c.left)
		}
	}
	if got, left, e := big.Div(api.Big{}, 0); !same(got, api.Big{}) || left != 0 || e != api.ErrZero {
		t.Errorf("Div(0, 0) = %v, %d, %d", got, left, e)
	}
}

func TestText(t *testing.T) {
	for _, n := range words() {
		if got := big.Text(big.Of(n)); got != exact.NewInt(n).String() {
			t.Errorf("Text(%d) = %q", n, got)
		}
	}
	// Powers of ten have zeros where the text's pieces meet, and a text isn't cut at what Parse takes.
	power, want := big.Of(1), "1"
	for range 450 {
		if got := big.Text(power); got != want {
			t.Fatalf("Text = %q; want %q", got, want)
		}
		if got := big.Text(big.Neg(power)); got != "-"+want {
			t.Fatalf("Text = %q; want -%q", got, want)
		}
		power, want = big.Mul(power, big.Of(10)), want+"0"
	}
}

func TestParse(t *testing.T) {
	for _, s := range []string{
		"0", "1", "9", "10", "-1", "-9", "-10", "100", "-100", "1234567890", "4294967295", "4294967296", "-4294967296",
		"9223372036854775807", "9223372036854775808", "-9223372036854775808", "-9223372036854775809", "18446744073709551615", "18446744073709551616",
		"9999999999999999999", "10000000000000000000", "100000000000000000000000000000000000001",
		strings.Repeat("9", 399), strings.Repeat("9", 400), "-" + strings.Repeat("9", 399), "1" + strings.Repeat("0", 399), "-1" + strings.Repeat("0", 398),
	} {
		want, _ := new(exact.Int).SetString(s, 10)
		if got, e := big.Parse(s); !is(got, want) || e != api.OK {
			t.Errorf("Parse(%q) = %v, %d; want %v, 0", s, got, e, want)
		}
	}
}

func TestParseWrong(t *testing.T) {
	for _, s := range []string{
		"", "-", "+", "--", "-0", "+0", "+1", "00", "-00", "01", "007", "-01", "0-", "--1", "-+1", "1-", "1-1",
		"/", ":", "1/", "1:", "/1", ":1", "-/", "-:", " ", " 1", "1 ", "- 1", "1\n", "\n", "1\x00", "\x00", "\xff", "1\xb2",
		"1_000", "1,000", "1.0", "1e3", "0x10", "a", "-a", "1a", "٣", "１", "−1", "1²",
		strings.Repeat("0", 400), "+" + strings.Repeat("9", 399), "-" + strings.Repeat("0", 399), strings.Repeat("9", 399) + ":", strings.Repeat("-", 400),
	} {
		if got, e := big.Parse(s); !same(got, api.Big{}) || e != api.ErrForm {
			t.Errorf("Parse(%q) = %v, %d; want ErrForm", s, got, e)
		}
	}
}

// How long a text is comes ahead of its form.
func TestParseLong(t *testing.T) {
	for _, s := range []string{
		strings.Repeat("9", 401), "-" + strings.Repeat("9", 400), "1" + strings.Repeat("0", 400), strings.Repeat("1", 5000),
		strings.Repeat("0", 401), strings.Repeat("-", 401), strings.Repeat(" ", 401), "+" + strings.Repeat("1", 400), strings.Repeat("x", 401), strings.Repeat("٣", 201),
	} {
		if got, e := big.Parse(s); !same(got, api.Big{}) || e != api.ErrLong {
			t.Errorf("Parse of %d bytes = %v, %d; want ErrLong", len(s), got, e)
		}
	}
	if _, e := big.Parse(big.Text(big.Shift(big.Of(1), 4096))); e != api.ErrLong {
		t.Errorf("Parse(2^4096) = %d; want ErrLong", e)
	}
}

func TestReadAsTold(t *testing.T) {
	told := bigs()
	for _, n := range words() {
		told = append(told, big.Of(n))
	}
	// The greatest power of two whose text fits is 2^1328; below 0 it is 2^1325, for the -.
	for n := range 1329 {
		power := big.Shift(big.Of(1), n)
		told = append(told, power, big.Sub(power, big.Of(1)))
		if n <= 1325 {
			told = append(told, big.Neg(power), big.Sub(big.Of(1), power))
		}
	}
	for _, a := range told {
		s := big.Text(a)
		got, e := big.Parse(s)
		if !is(got, value(a)) || e != api.OK {
			t.Fatalf("Parse(Text(%v)) = %v, %d", a, got, e)
		}
		if again := big.Text(got); again != s {
			t.Fatalf("Text(Parse(%q)) = %q", s, again)
		}
	}
}

// answers are all that the package answers of two numbers as numbers.
func answers(a, b api.Big) []api.Big {
	out := []api.Big{big.Add(a, b), big.Sub(a, b), big.Mul(a, b), big.Neg(a)}
	for _, n := range []int{-1, 0, 1, 32} {
		out = append(out, big.Shift(a, n))
	}
	for _, n := range []int64{1, -1, 7, math.MinInt64} {
		q, _, _ := big.Div(a, n)
		out = append(out, q)
	}
	big.Cmp(a, b)
	big.Sign(a)
	big.Bits(a)
	big.Small(a)
	big.Text(a)
	return out
}

// What is handed in is neither changed nor kept, up to the end of its memory, and no two answers share memory.
func TestMemory(t *testing.T) {
	for _, x := range lists() {
		for _, y := range lists() {
			a := api.Big{Digits: append(slices.Clone(x), 11, 12, 13)[:len(x)]}
			b := api.Big{Neg: true, Digits: append(slices.Clone(y), 21, 22, 23)[:len(y)]}
			first := answers(a, b)
			for _, got := range first {
				for i := range got.Digits {
					got.Digits[i] = ^got.Digits[i]
				}
				_ = append(got.Digits, 31, 32, 33)
			}
			if !slices.Equal(a.Digits[:len(x)+3], append(slices.Clone(x), 11, 12, 13)) || !slices.Equal(b.Digits[:len(y)+3], append(slices.Clone(y), 21, 22, 23)) {
				t.Fatalf("of %v and %v one is changed", x, y)
			}
			for i, got := range answers(a, b) {
				for j := range got.Digits {
					if got.Digits[j] != ^first[i].Digits[j] {
						t.Fatalf("of %v and %v answer %d shares its memory", x, y, i)
					}
				}
			}
		}
	}
}
