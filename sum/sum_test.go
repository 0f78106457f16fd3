package sum_test

import (
	"encoding/binary"
	"hash/crc32"
	"math"
	"strings"
	"testing"

	"pochoir/sum"
)

// most is the greatest number of bytes of Join's second text.
const most = 1 << 20

// mixed is n bytes of all kinds, in no order that comes again soon.
func mixed(n int) string {
	out := make([]byte, n)
	x := uint32(2463534242)
	for i := range out {
		x ^= x << 13
		x ^= x >> 17
		x ^= x << 5
		out[i] = byte(x >> 11)
	}
	return string(out)
}

// numbers are CRCs that may be handed in, of which not each is that of a short text.
func numbers() []uint32 {
	out := []uint32{0, 1, 2, 0xcbf43926, 0xedb88320, 0xedb88321, 0x12477cdf, 1 << 23, math.MaxUint32 - 1, math.MaxUint32}
	for i := range 32 {
		out = append(out, 1<<i, 1<<i-1, ^uint32(1<<i))
	}
	return out
}

// plain is the CRC as the chapter tells it, with each bit as a number of its own, the lowest first.
func plain(s string) uint32 {
	var row [32]int
	for i := range row {
		row[i] = 1
	}
	for _, b := range []byte(s) {
		for i := range 8 {
			row[i] = (row[i] + int(b)>>i) % 2
		}
		for range 8 {
			out := row[0]
			copy(row[:], row[1:])
			row[31] = 0
			for i := range row {
				row[i] = (row[i] + out*(0xedb88320>>i%2)) % 2
			}
		}
	}
	n := uint32(0)
	for i := range row {
		n += uint32(1-row[i]) << i
	}
	return n
}

func TestCrc(t *testing.T) {
	for s, want := range map[string]uint32{
		"":          0,
		"123456789": 0xcbf43926,
		"12345678":  0x9ae0daaf,
		"a":         0xe8b7be43,
		"abc":       0x352441c2,
		"\x00":      0xd202ef8d,
		"\xff":      0xff000000,
		// Bytes 0 at the beginning and at the end count.
		"\x00\x00":         0x41d912ff,
		"\x00\x00\x00\x00": 0x2144df1c,
		"\xff\xff\xff\xff": math.MaxUint32,
		"The quick brown fox jumps over the lazy dog": 0x414fa339,
		strings.Repeat("\x00", 32):                    0x190a55ad,
		strings.Repeat("\xff", 32):                    0xff6cab0b,
	} {
		if got := sum.Crc(s); got != want {
			t.Errorf("Crc(%q) = %08x; want %08x", s, got, want)
		}
	}
}

func TestCrcPlain(t *testing.T) {
	for n := range 130 {
		for _, s := range []string{mixed(n), mixed(n + 1)[1:], strings.Repeat("\x00", n), strings.Repeat("\x80", n)} {
			if got, want := sum.Crc(s), plain(s); got != want {
				t.Errorf("Crc(%q) = %08x; want %08x", s, got, want)
			}
		}
	}
}

// All texts of one byte and of two, and long ones.
func TestCrcAll(t *testing.T) {
	check := func(s string) {
		if got, want := sum.Crc(s), crc32.ChecksumIEEE([]byte(s)); got != want {
			t.Errorf("Crc of %d bytes = %08x; want %08x", len(s), got, want)
		}
	}
	for a := range 256 {
		check(string([]byte{byte(a)}))
		for b := range 256 {
			check(string([]byte{byte(a), byte(b)}))
		}
	}
	for _, n := range []int{255, 256, 257, 65535, 65536, 65537, most - 1, most, most + 1, 3*most + 5} {
		check(mixed(n))
	}
}

func TestJoin(t *testing.T) {
	s := mixed(300)
	whole := sum.Crc(s)
	for i := range len(s) + 1 {
		if got := sum.Join(sum.Crc(s[:i]), sum.Crc(s[i:]), len(s)-i); got != whole {
			t.Errorf("Join at %d = %08x; want %08x", i, got, whole)
		}
	}
	for _, c := range []struct {
		a, b string
	}{
		{"", ""},
		{"123456789", ""},
		{"", "123456789"},
		{"1234", "56789"},
		{"56789", "1234"},
		{"\x00", "\x00\x00"},
		{"\xff\xff\xff\xff", "\xff\xff\xff\xff"},
		{"a", "\x00"},
	} {
		want := crc32.ChecksumIEEE([]byte(c.a + c.b))
		if got := sum.Join(sum.Crc(c.a), sum.Crc(c.b), len(c.b)); got != want {
			t.Errorf("Join of %q and %q = %08x; want %08x", c.a, c.b, got, want)
		}
	}
}

// Second texts up to the longest one that may be.
func TestJoinLong(t *testing.T) {
	first := mixed(77)
	for _, n := range []int{1023, 1024, 1025, 65535, 65536, 524287, 524288, 524289, 699050, most - 1, most} {
		second := mixed(n + 3)[3:]
		want := crc32.ChecksumIEEE([]byte(first + second))
		if got := sum.Join(sum.Crc(first), sum.Crc(second), n); got != want {
			t.Errorf("Join with %d bytes = %08x; want %08x", n, got, want)
		}
	}
}

// The second text being n bytes 0, the numbers on their way are those of the library, whose first number and last turn are taken back here.
func TestJoinNumbers(t *testing.T) {
	table := crc32.MakeTable(crc32.IEEE)
	for _, a := range numbers() {
		for _, b := range numbers() {
			for _, n := range []int{0, 1, 2, 3, 4, 5, 7, 8, 31, 32, 33, 100} {
				want := ^crc32.Update(^a, table, make([]byte, n)) ^ b
				if got := sum.Join(a, b, n); got != want {
					t.Fatalf("Join(%08x, %08x, %d) = %08x; want %08x", a, b, n, got, want)
				}
			}
		}
	}
}

func TestJoinOthers(t *testing.T) {
	for _, n := range []int{-1, -2, -8, -most, math.MinInt32, -1 << 32, -1<<32 + 1, math.MinInt, math.MinInt + 1, most + 1, most + 2, 2 * most, math.MaxInt32, 1 << 32, 1<<32 + 1, math.MaxInt - 1, math.MaxInt} {
		for _, a := range numbers() {
			for _, b := range numbers() {
				if got := sum.Join(a, b, n); got != a {
					t.Fatalf("Join(%08x, %08x, %d) = %08x", a, b, n, got)
				}
			}
		}
	}
}

// padded is the sum as the chapter tells it: with the bytes 0 behind, and what doesn't fit taken away at the end.
func padded(s string) uint32 {
	for len(s)%4 != 0 {
		s += "\x00"
	}
	total := uint64(0)
	for i := 0; i < len(s); i += 4 {
		total += uint64(binary.BigEndian.Uint32([]byte(s[i : i+4])))
	}
	return uint32(total % (1 << 32))
}

func TestTable(t *testing.T) {
	for n := range 70 {
		for _, s := range []string{mixed(n), mixed(n + 1)[1:], strings.Repeat("\xff", n), strings.Repeat("\x80", n), strings.Repeat("\x01", n)} {
			if got, want := sum.Table(s), padded(s); got != want {
				t.Errorf("Table(%q) = %08x; want %08x", s, got, want)
			}
		}
	}
	for n := most - 2; n <= most+2; n++ {
		s := mixed(n)
		if got, want := sum.Table(s), padded(s); got != want {
			t.Errorf("Table of %d bytes = %08x; want %08x", n, got, want)
		}
	}
}

func TestTableEdges(t *testing.T) {
	for s, want := range map[string]uint32{
		"":                             0,
		"\x01\x02\x03\x04":             0x01020304,
		"\x01":                         0x01000000,
		"\x01\x02":                     0x01020000,
		"\x01\x02\x03":                 0x01020300,
		"\x01\x02\x03\x04\x05":         0x06020304,
		"\x00\x00\x00\x00\x00\xff":     0x00ff0000,
		"\x00\x01\x02\x03\x04\x05\x06": 0x04060803,
		// Sums that carry from byte to byte, and go round.
		"\x00\x00\x00\xff\x00\x00\x00\x01":                  0x00000100,
		"\x00\xff\xff\xff\x00\x00\x00\x01":                  0x01000000,
		"\xff\xff\xff\xff\x00\x00\x00\x01":                  0,
		"\xff\xff\xff\xff\xff\xff\xff\xff":                  0xfffffffe,
		"\x80\x00\x00\x00\x80":                              0,
		"\xff\xff\xff\xff\xff":                              0xfeffffff,
		strings.Repeat("\xff", most):                        1<<32 - most/4,
		strings.Repeat("\x00", most) + "\x07":               0x07000000,
		strings.Repeat("\x00\x00\x00\x01", most/4) + "\x01": 0x01000000 + most/4,
	} {
		if got := sum.Table(s); got != want {
			t.Errorf("Table of %d bytes, %.16q first, = %08x; want %08x", len(s), s, got, want)
		}
	}
}
