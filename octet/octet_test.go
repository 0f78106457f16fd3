package octet_test

import (
	"encoding/binary"
	"math"
	"slices"
	"testing"

	"pochoir/api"
	"pochoir/octet"
)

// mixed has low and high bytes, none twice, so that a number from a wrong place, or in a wrong order, is another one.
const mixed = "\x00\x01\x7f\x80\xff\xfe\x02\x81\x0a\xc3\x28"

// ends are numbers that no place and no length can be, or nearly; those near the greatest go round when a little is added.
var ends = []int{math.MinInt, math.MinInt + 1, -1 << 32, -5, -4, -3, -2, -1, 1 << 32, math.MaxInt - 4, math.MaxInt - 3, math.MaxInt - 2, math.MaxInt - 1, math.MaxInt}

// places are all those in and about a text of so many bytes.
func places(length int) []int {
	out := slices.Clone(ends)
	for at := 0; at <= length+5; at++ {
		out = append(out, at)
	}
	return out
}

// texts are mixed's beginnings and endings, the empty one among them.
func texts() []string {
	var out []string
	for i := range len(mixed) + 1 {
		out = append(out, mixed[:i], mixed[i:])
	}
	return out
}

// piece is the n bytes at a place, and whether they are there; places are stepped to, so nothing is added up that could go round.
func piece(s string, at, n int) (string, bool) {
	for i := range len(s) + 1 {
		for j := i; j <= len(s); j++ {
			if i == at && j-i == n {
				return s[i:j], true
			}
		}
	}
	return "", false
}

func TestNumbers(t *testing.T) {
	for _, s := range texts() {
		for _, at := range places(len(s)) {
			want, f := uint16(0), api.ErrEnd
			if p, there := piece(s, at, 2); there {
				want, f = binary.BigEndian.Uint16([]byte(p)), api.OK
			}
			if got, e := octet.U16(s, at); got != want || e != f {
				t.Errorf("U16(%q, %d) = %d, %d; want %d, %d", s, at, got, e, want, f)
			}
			long, f := uint32(0), api.ErrEnd
			if p, there := piece(s, at, 4); there {
				long, f = binary.BigEndian.Uint32([]byte(p)), api.OK
			}
			if got, e := octet.U32(s, at); got != long || e != f {
				t.Errorf("U32(%q, %d) = %d, %d; want %d, %d", s, at, got, e, long, f)
			}
		}
	}
}

func TestNumbersEdges(t *testing.T) {
	for _, c := range []struct {
		s     string
		at    int
		short uint16
		e     api.Errno
		long  uint32
		f     api.Errno
	}{
		{"\x01\x02", 0, 258, api.OK, 0, api.ErrEnd},
		{"\x01\x02\x03", 0, 258, api.OK, 0, api.ErrEnd},
		{"\x01\x02\x03", 1, 515, api.OK, 0, api.ErrEnd},
		{"\x01\x02\x03", 2, 0, api.ErrEnd, 0, api.ErrEnd},
		{"\x01\x02\x03\x04", 0, 258, api.OK, 16909060, api.OK},
		{"\x01\x02\x03\x04", 1, 515, api.OK, 0, api.ErrEnd},
		{"\x01\x02\x03\x04", 4, 0, api.ErrEnd, 0, api.ErrEnd},
		{"\x01\x02\x03\x04", -1, 0, api.ErrEnd, 0, api.ErrEnd},
		{"\x00\x00\x00\x00", 0, 0, api.OK, 0, api.OK},
		{"\xff\xff\xff\xff", 0, math.MaxUint16, api.OK, math.MaxUint32, api.OK},
		{"\x80\x00\x00\x00", 0, 1 << 15, api.OK, 1 << 31, api.OK},
		{"\x07\x00\x00\xff\xfe", 1, 0, api.OK, 65534, api.OK},
		{"", 0, 0, api.ErrEnd, 0, api.ErrEnd},
		{"", -2, 0, api.ErrEnd, 0, api.ErrEnd},
	} {
		if got, e := octet.U16(c.s, c.at); got != c.short || e != c.e {
			t.Errorf("U16(%q, %d) = %d, %d; want %d, %d", c.s, c.at, got, e, c.short, c.e)
		}
		if got, e := octet.U32(c.s, c.at); got != c.long || e != c.f {
			t.Errorf("U32(%q, %d) = %d, %d; want %d, %d", c.s, c.at, got, e, c.long, c.f)
		}
	}
}

func TestCut(t *testing.T) {
	for _, s := range texts() {
		for _, at := range places(len(s)) {
			for _, n := range places(len(s)) {
				want, f := "", api.ErrEnd
				if p, there := piece(s, at, n); there {
					want, f = p, api.OK
				}
				if got, e := octet.Cut(s, at, n); got != want || e != f {
					t.Errorf("Cut(%q, %d, %d) = %q, %d; want %q, %d", s, at, n, got, e, want, f)
				}
			}
		}
	}
}

func TestCutEdges(t *testing.T) {
	for _, c := range []struct {
		s     string
		at, n int
		want  string
		e     api.Errno
	}{
		{"abcd", 0, 4, "abcd", api.OK},
		{"abcd", 1, 2, "bc", api.OK},
		{"abcd", 3, 1, "d", api.OK},
		{"\xff\x00\x80", 0, 2, "\xff\x00", api.OK},
		// Nothing, which is there up to the end, but not beyond it.
		{"abcd", 0, 0, "", api.OK},
		{"abcd", 4, 0, "", api.OK},
		{"", 0, 0, "", api.OK},
		{"abcd", 5, 0, "", api.ErrEnd},
		{"abcd", -1, 0, "", api.ErrEnd},
		{"", 1, 0, "", api.ErrEnd},
		{"", -1, 0, "", api.ErrEnd},
		{"abcd", math.MaxInt, 0, "", api.ErrEnd},
		// One byte too many, or one too few.
		{"abcd", 0, 5, "", api.ErrEnd},
		{"abcd", 3, 2, "", api.ErrEnd},
		{"abcd", 4, 1, "", api.ErrEnd},
		{"abcd", 5, -1, "", api.ErrEnd},
		{"abcd", 2, -1, "", api.ErrEnd},
		{"abcd", -1, 2, "", api.ErrEnd},
		// Sums that go round.
		{"abcd", 1, math.MaxInt, "", api.ErrEnd},
		{"abcd", math.MaxInt, 1, "", api.ErrEnd},
		{"abcd", math.MaxInt, math.MaxInt, "", api.ErrEnd},
		{"abcd", math.MinInt, math.MinInt, "", api.ErrEnd},
		{"abcd", math.MinInt, math.MaxInt, "", api.ErrEnd},
	} {
		if got, e := octet.Cut(c.s, c.at, c.n); got != c.want || e != c.e {
			t.Errorf("Cut(%q, %d, %d) = %q, %d; want %q, %d", c.s, c.at, c.n, got, e, c.want, c.e)
		}
	}
}

func TestBytes(t *testing.T) {
	for n := range 1 << 16 {
		want := string(binary.BigEndian.AppendUint16(nil, uint16(n)))
		if got := octet.P16(uint16(n)); got != want {
			t.Fatalf("P16(%d) = %q; want %q", n, got, want)
		}
	}
	check := func(n uint32) {
		want := string(binary.BigEndian.AppendUint32(nil, n))
		if got := octet.P32(n); got != want {
			t.Errorf("P32(%d) = %q; want %q", n, got, want)
		}
		if got, e := octet.U32(want, 0); got != n || e != api.OK {
			t.Errorf("U32(%q, 0) = %d, %d", want, got, e)
		}
	}
	for i := range 32 {
		check(1<<i - 1)
		check(1 << i)
		check(math.MaxUint32 - 1<<i)
	}
	for b := range uint32(256) {
		for shift := 0; shift < 32; shift += 8 {
			check(b << shift)
			check(^(b << shift))
		}
	}
	check(0x01020304)
}

func TestBytesEdges(t *testing.T) {
	for n, want := range map[uint16]string{0: "\x00\x00", 1: "\x00\x01", 258: "\x01\x02", 255: "\x00\xff", 256: "\x01\x00", 1 << 15: "\x80\x00", math.MaxUint16: "\xff\xff"} {
		if got := octet.P16(n); got != want {
			t.Errorf("P16(%d) = %q; want %q", n, got, want)
		}
	}
	for n, want := range map[uint32]string{0: "\x00\x00\x00\x00", 1: "\x00\x00\x00\x01", 65535: "\x00\x00\xff\xff", 65536: "\x00\x01\x00\x00", 16909060: "\x01\x02\x03\x04", 1 << 31: "\x80\x00\x00\x00", math.MaxUint32: "\xff\xff\xff\xff"} {
		if got := octet.P32(n); got != want {
			t.Errorf("P32(%d) = %q; want %q", n, got, want)
		}
	}
}
