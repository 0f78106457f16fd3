package cmap_test

import (
	"math"
	"math/rand"
	"slices"
	"strings"
	"testing"

	"pochoir/api"
	"pochoir/cmap"
)

// checkParse holds Parse against the chapter's words.
func checkParse(t *testing.T, s string, glyphs int) api.Errno {
	t.Helper()
	want, f := parsed(s, glyphs)
	got, e := cmap.Parse(s, glyphs)
	if e != f || !slices.Equal(got, want) {
		t.Fatalf("Parse(%.300q of %d bytes, %d) = %.300v of %d, %d; want %.300v of %d, %d", s, len(s), glyphs, got, len(got), e, want, len(want), f)
	}
	return e
}

// checkMake holds Make against the chapter's words; what is made is parsed to itself, in each font that has the glyphs.
func checkMake(t *testing.T, l []api.Pair, long bool) api.Errno {
	t.Helper()
	want, f := made(l, long)
	got, e := cmap.Make(l, long)
	if got != want || e != f {
		t.Fatalf("Make(%.300v, %t) = %.300q, %d; want %.300q, %d", l, long, got, e, want, f)
	}
	if e != api.OK {
		return e
	}
	most := 0
	for _, p := range l {
		most = max(most, p.Glyph)
	}
	for _, glyphs := range []int{most + 1, 1024} {
		if again, e := cmap.Parse(got, glyphs); !slices.Equal(again, l) || e != api.OK {
			t.Fatalf("Parse of what is made of %.300v, %t, with %d glyphs = %.300v, %d", l, long, glyphs, again, e)
		}
	}
	if again, e := cmap.Parse(got, most); most > 0 && (len(again) > 0 || e != api.ErrForm) {
		t.Fatalf("Parse of what is made of %.300v, %t, with a glyph less = %.300v, %d", l, long, again, e)
	}
	return e
}

// checkMay holds May against the chapter's words.
func checkMay(t *testing.T, l []api.Pair, glyphs int) bool {
	t.Helper()
	want := may(l, glyphs)
	if got := cmap.May(l, glyphs); got != want {
		t.Fatalf("May(%.300v of %d, %d) = %t; want %t", l, len(l), glyphs, got, want)
	}
	return want
}

// line is n pairs, of codes and glyphs that rise by so many.
func line(n, code, glyph, codes, glyphs int) []api.Pair {
	var out []api.Pair
	for i := range n {
		out = append(out, api.Pair{Code: code + i*codes, Glyph: glyph + i*glyphs})
	}
	return out
}

// with is s with other bytes at a place.
func with(s string, at int, bytes string) string {
	return s[:at] + bytes + s[at+len(bytes):]
}

// alone is a table of one part of 12, for 3 and 10.
func alone(l ...[3]int) string {
	return table(row{3, 10, 12}) + part12(l...)
}

// alone4 is a table of one part of 4, for 3 and 1.
func alone4(l []segment, behind ...int) string {
	return table(row{3, 1, 12}) + part4(l, behind...)
}

// jump is what segment i of n says for the number k behind all of them.
func jump(n, i, k int) int {
	return 2 * (n - i + k)
}

// last is the segment of FFFF, of which there is no pair.
func last() segment {
	return segment{from: 0xffff, to: 0xffff, delta: 1}
}

// some is tables in which nothing is wrong, of a font of 12 glyphs.
func some() []string {
	groups := [][3]int{{65, 66, 1}, {68, 68, 0}, {70, 74, 5}, {0x1f600, 0x1f601, 10}, {0x10ffff, 0x10ffff, 11}}
	segments := []segment{
		{from: 32, to: 34, delta: 1 - 32},
		{from: 65, to: 68, delta: 2, jump: jump(4, 1, 0)},
		{from: 100, to: 101, delta: -3, jump: jump(4, 2, 3)},
		last(),
	}
	behind := []int{4, 0, 0xffff, 9, 7}
	a, b := part12(groups...), part4(segments, behind...)
	return []string{
		alone(),
		alone(groups[0]),
		alone(groups...),
		alone4([]segment{last()}),
		alone4([]segment{{from: 0xfffe, to: 0xffff, delta: 12}}),
		alone4(segments, behind...),
		table(row{1, 0, 7}, row{3, 1, 28}, row{0, 3, 28 + len(b)}) + b + part4([]segment{last()}),
		table(row{0, 4, 36 + len(b)}, row{3, 1, 36}, row{3, 10, 36 + len(b)}, row{0, 3, 36}) + b + a,
	}
}

func TestExample(t *testing.T) {
	l := []api.Pair{{Code: 65, Glyph: 1}, {Code: 66, Glyph: 2}}
	want := "\x00\x00\x00\x01\x00\x03\x00\x0a\x00\x00\x00\x0c" +
		"\x00\x0c\x00\x00\x00\x00\x00\x1c\x00\x00\x00\x00\x00\x00\x00\x01" +
		"\x00\x00\x00\x41\x00\x00\x00\x42\x00\x00\x00\x01"
	s, e := cmap.Make(l, true)
	if s != want || e != api.OK {
		t.Errorf("%q, %d", s, e)
	}
	if got, e := cmap.Parse(want, 3); !slices.Equal(got, l) || e != api.OK {
		t.Errorf("%v, %d", got, e)
	}
}

// The bytes of tables, written out, as they are made and as they are read.
func TestBytes(t *testing.T) {
	const (
		long  = "\x00\x00\x00\x01\x00\x03\x00\x0a\x00\x00\x00\x0c\x00\x0c\x00\x00"
		short = "\x00\x00\x00\x01\x00\x03\x00\x01\x00\x00\x00\x0c\x00\x04"
	)
	for _, c := range []struct {
		l     []api.Pair
		long  string
		short string
	}{
		{nil,
			long + "\x00\x00\x00\x10\x00\x00\x00\x00\x00\x00\x00\x00",
			short + "\x00\x18\x00\x00\x00\x02\x00\x02\x00\x00\x00\x00\xff\xff\x00\x00\xff\xff\x00\x01\x00\x00"},
		{line(2, 65, 1, 1, 1),
			long + "\x00\x00\x00\x1c\x00\x00\x00\x00\x00\x00\x00\x01\x00\x00\x00\x41\x00\x00\x00\x42\x00\x00\x00\x01",
			short + "\x00\x20\x00\x00\x00\x04\x00\x04\x00\x01\x00\x00\x00\x42\xff\xff\x00\x00\x00\x41\xff\xff\xff\xc0\x00\x01\x00\x00\x00\x00"},
		{[]api.Pair{{Code: 0, Glyph: 1023}, {Code: 1, Glyph: 1023}, {Code: 0xfffe, Glyph: 258}},
			long + "\x00\x00\x00\x34\x00\x00\x00\x00\x00\x00\x00\x03\x00\x00\x00\x00\x00\x00\x00\x00\x00\x00\x03\xff\x00\x00\x00\x01\x00\x00\x00\x01\x00\x00\x03\xff\x00\x00\xff\xfe\x00\x00\xff\xfe\x00\x00\x01\x02",
			short + "\x00\x30\x00\x00\x00\x08\x00\x08\x00\x02\x00\x00\x00\x00\x00\x01\xff\xfe\xff\xff\x00\x00\x00\x00\x00\x01\xff\xfe\xff\xff\x03\xff\x03\xfe\x01\x04\x00\x01\x00\x00\x00\x00\x00\x00\x00\x00"},
		{[]api.Pair{{Code: 65, Glyph: 5}, {Code: 66, Glyph: 6}, {Code: 67, Glyph: 5}, {Code: 69, Glyph: 6}},
			long + "\x00\x00\x00\x34\x00\x00\x00\x00\x00\x00\x00\x03\x00\x00\x00\x41\x00\x00\x00\x42\x00\x00\x00\x05\x00\x00\x00\x43\x00\x00\x00\x43\x00\x00\x00\x05\x00\x00\x00\x45\x00\x00\x00\x45\x00\x00\x00\x06",
			short + "\x00\x30\x00\x00\x00\x08\x00\x08\x00\x02\x00\x00\x00\x42\x00\x43\x00\x45\xff\xff\x00\x00\x00\x41\x00\x43\x00\x45\xff\xff\xff\xc4\xff\xc2\xff\xc1\x00\x01\x00\x00\x00\x00\x00\x00\x00\x00"},
		{line(1, 0x10ffff, 1, 0, 0),
			long + "\x00\x00\x00\x1c\x00\x00\x00\x00\x00\x00\x00\x01\x00\x10\xff\xff\x00\x10\xff\xff\x00\x00\x00\x01",
			""},
	} {
		for _, long := range []bool{false, true} {
			want, f := c.short, api.OK
			if long {
				want = c.long
			}
			if want == "" {
				f = api.ErrArg
			}
			if s, e := cmap.Make(c.l, long); s != want || e != f {
				t.Errorf("Make(%v, %t) = %q, %d; want %q", c.l, long, s, e, want)
			}
			if want == "" {
				continue
			}
			for _, s := range []string{want, want + "\x00", want + "more bytes"} {
				if l, e := cmap.Parse(s, 1024); !slices.Equal(l, c.l) || e != api.OK {
					t.Errorf("Parse(%q) = %v, %d; want %v", s, l, e, c.l)
				}
			}
		}
	}
}

// The bytes of tables as they aren't made, written out: with glyphs at places, numbers that count for nothing, and code points of glyph 0.
func TestParsedBytes(t *testing.T) {
	for _, c := range []struct {
		name string
		s    string
		l    []api.Pair
		e    api.Errno
	}{
		{"groups", "\x00\x00\x00\x01\x00\x00\x00\x04\x00\x00\x00\x0d?" +
			"\x00\x0c\x00\x00\x00\x00\x00\x34\xff\xff\xff\xff\x00\x00\x00\x03" +
			"\x00\x00\x00\x00\x00\x00\x00\x02\x00\x00\x00\x00" +
			"\x00\x00\x00\x03\x00\x00\x00\x04\x00\x00\x00\x03" +
			"\x00\x00\x01\x00\x00\x00\x01\x00\x00\x00\x00\x02",
			[]api.Pair{{Code: 1, Glyph: 1}, {Code: 2, Glyph: 2}, {Code: 3, Glyph: 3}, {Code: 4, Glyph: 4}, {Code: 256, Glyph: 2}}, api.OK},
		// The last place of the second segment is right behind the part, whatever stands there.
		{"segments, and a number too few", "\x00\x00\x00\x01\x00\x00\x00\x03\x00\x00\x00\x0c" +
			"\x00\x04\x00\x2e\x12\x34\x00\x06\x00\x04\x00\x01\x00\x02" +
			"\x00\x22\x00\x44\xff\xff\x00\x00\x00\x20\x00\x41\xff\xff\xff\xe0\x00\x02\x00\x01\x00\x00\x00\x04\x00\x00" +
			"\x00\x01\x00\x00\xff\xff",
			nil, api.ErrEnd},
		{"segments with numbers", "\x00\x00\x00\x01\x00\x00\x00\x03\x00\x00\x00\x0c" +
			"\x00\x04\x00\x30\x12\x34\x00\x06\x00\x04\x00\x01\x00\x02" +
			"\x00\x22\x00\x44\xff\xff\x00\x00\x00\x20\x00\x41\xff\xff\xff\xe0\x00\x02\x00\x01\x00\x00\x00\x04\x00\x00" +
			"\x00\x01\x00\x00\xff\xff\x00\x02",
			[]api.Pair{{Code: 33, Glyph: 1}, {Code: 34, Glyph: 2}, {Code: 65, Glyph: 3}, {Code: 67, Glyph: 1}, {Code: 68, Glyph: 4}}, api.OK},
		{"a glyph at the place of the Jump behind", "\x00\x00\x00\x01\x00\x03\x00\x01\x00\x00\x00\x0c" +
			"\x00\x04\x00\x20\x00\x00\x00\x04\x00\x04\x00\x01\x00\x00" +
			"\x00\x09\xff\xff\x00\x00\x00\x09\xff\xff\x00\x03\x00\x05\x00\x02\x00\x00",
			[]api.Pair{{Code: 0xffff, Glyph: 4}}, api.OK},
		{"FFFF with a glyph", "\x00\x00\x00\x01\x00\x03\x00\x01\x00\x00\x00\x0c" +
			"\x00\x04\x00\x18\x00\x00\x00\x02\x00\x02\x00\x00\x00\x00" +
			"\xff\xff\x00\x00\xff\xfe\x00\x04\x00\x00",
			[]api.Pair{{Code: 0xfffe, Glyph: 2}, {Code: 0xffff, Glyph: 3}}, api.OK},
	} {
		for _, more := range []string{"", "\x00", "\x00\x01\x00\x02"} {
			if l, e := cmap.Parse(c.s+more, 5); !slices.Equal(l, c.l) || e != c.e {
				t.Errorf("%s: %v, %d; want %v, %d", c.name, l, e, c.l, c.e)
			}
			checkParse(t, c.s+more, 5)
		}
	}
}

// Which part counts: all tables of up to four rows.
func TestRows(t *testing.T) {
	kinds := [][2]int{{3, 10}, {0, 4}, {3, 1}, {0, 3}, {3, 0}, {0, 10}, {10, 3}, {4, 0}, {0, 0}, {1, 3}}
	parts, size := "", 0
	for i := range 4 {
		a := part12([3]int{65, 65, 1 + i})
		parts += a + part4([]segment{{from: 65, to: 65, delta: 1 + i - 65}, last()})
		size = len(parts) / (i + 1)
	}
	for n := range 5 {
		pick := make([]int, n)
		for {
			var rows []row
			best, want := 4, -1
			for i, k := range pick {
				at := 4 + 8*n + size*i
				if k > 3 {
					at = math.MaxUint32
				} else if k > 1 {
					at += 28
				}
				rows = append(rows, row{kinds[k][0], kinds[k][1], at})
				if k < best {
					best, want = k, 1+i
				}
			}
			s := table(rows...) + parts
			l, e := cmap.Parse(s, 5)
			if want < 0 && (len(l) != 0 || e != api.ErrNone) || want > 0 && (len(l) != 1 || l[0] != api.Pair{Code: 65, Glyph: want} || e != api.OK) {
				t.Fatalf("Parse of rows %v = %v, %d; want glyph %d", rows, l, e, want)
			}
			checkParse(t, s, 5)
			if !next(pick, len(kinds)) {
				break
			}
		}
	}
}

// next turns l into the next list of numbers below n; false: that was the last one.
func next(l []int, n int) bool {
	for i := range l {
		l[i]++
		if l[i] < n {
			return true
		}
		l[i] = 0
	}
	return false
}

// What comes first counts, even where it is wrong and another part is not.
func TestRowsWrong(t *testing.T) {
	fine12, fine4 := part12([3]int{65, 65, 1}), part4([]segment{last()})
	at := 4 + 8*4
	parts := fine12 + fine4 + "\x00\x0c\x00\x00"
	for _, c := range []struct {
		name string
		rows []row
		e    api.Errno
	}{
		{"all fine", []row{{3, 10, at}, {0, 4, at}, {3, 1, at + 28}, {0, 3, at + 28}}, api.OK},
		{"a part of 4 in the place of one of 12", []row{{3, 10, at + 28}, {0, 4, at}, {3, 1, at + 28}, {0, 3, at + 28}}, api.ErrForm},
		{"a part of 12 in the place of one of 4", []row{{3, 2, at}, {0, 5, at}, {3, 1, at}, {0, 3, at + 28}}, api.ErrForm},
		{"the first one of several is wrong", []row{{3, 10, at + 28}, {3, 10, at}, {3, 10, at}, {3, 10, at}}, api.ErrForm},
		{"the second one of several is wrong", []row{{3, 10, at}, {3, 10, at + 28}, {3, 10, 1 << 31}, {0, 4, at + 28}}, api.OK},
		{"the first one of several isn't there", []row{{0, 4, 1 << 31}, {0, 4, at}, {0, 3, at + 28}, {0, 4, at}}, api.ErrEnd},
		{"one that isn't all there, behind those that play no role", []row{{1, 0, at}, {0, 3, at + len(parts) - 2}, {1, 1, at}, {1, 2, at}}, api.ErrEnd},
		{"a part at the table's beginning", []row{{3, 10, 0}, {0, 4, at}, {3, 1, at}, {0, 3, at}}, api.ErrForm},
		{"a part among the rows", []row{{3, 1, 4}, {0, 3, at}, {0, 3, at}, {0, 3, at}}, api.ErrForm},
		{"a place right at the end", []row{{3, 10, at + len(parts)}, {0, 4, at}, {3, 1, at}, {0, 3, at}}, api.ErrEnd},
		{"a place beyond the end", []row{{0, 3, at + len(parts) + 1}, {0, 5, at}, {3, 0, at}, {0, 0, at}}, api.ErrEnd},
		{"the greatest place", []row{{0, 4, math.MaxUint32}, {3, 1, at + 28}, {3, 0, at}, {0, 0, at}}, api.ErrEnd},
	} {
		s := table(c.rows...) + parts
		if l, e := cmap.Parse(s, 2); e != c.e || e != api.OK && len(l) != 0 {
			t.Errorf("%s: %v, %d; want %d", c.name, l, e, c.e)
		}
		checkParse(t, s, 2)
	}
	// Two rows that are a part of 12, of no group: nothing says that a part lies behind the rows.
	if l, e := cmap.Parse(table(row{3, 10, 12}, row{12, 0, 16}, row{7, 7, 0}), 2); len(l) != 0 || e != api.OK {
		t.Errorf("%v, %d", l, e)
	}
}

// What is wrong ahead of all parts, and the order of that.
func TestHead(t *testing.T) {
	fine := alone([3]int{65, 66, 1})
	for _, c := range []struct {
		name   string
		s      string
		glyphs int
		e      api.Errno
	}{
		{"fine", fine, 3, api.OK},
		{"as many glyphs as may be", fine, 1024, api.OK},
		{"no glyph", fine, 0, api.ErrArg},
		{"fewer glyphs than none", fine, -1, api.ErrArg},
		{"one glyph more than may be", fine, 1025, api.ErrArg},
		{"no glyph, and no byte", "", 0, api.ErrArg},
		{"too many glyphs, and no row", "\x00\x00\x00\x00", 1025, api.ErrArg},
		{"too many glyphs, and another first number", with(fine, 0, "\x01"), 1025, api.ErrArg},
		{"the most glyphs", fine, math.MaxInt, api.ErrArg},
		{"the fewest glyphs", fine, math.MinInt, api.ErrArg},
		{"no byte", "", 3, api.ErrEnd},
		{"three bytes", "\x00\x00\x00", 3, api.ErrEnd},
		{"three bytes, another first number", "\x00\x01\x00", 3, api.ErrEnd},
		{"no row", "\x00\x00\x00\x00", 3, api.ErrNone},
		{"no row, and a part", "\x00\x00\x00\x00" + fine[4:], 3, api.ErrNone},
		{"no row, another first number", "\x00\x01\x00\x00", 3, api.ErrForm},
		{"no row, another first number by its other byte", "\x01\x00\x00\x00", 3, api.ErrForm},
		{"a row of seven bytes", fine[:11], 3, api.ErrEnd},
		{"a row of seven bytes, another first number", with(fine[:11], 1, "\x01"), 3, api.ErrEnd},
		{"a row that isn't for any", with(fine, 6, "\x00\x00"), 3, api.ErrNone},
		{"the same, another first number", with(with(fine, 6, "\x00\x00"), 1, "\x02"), 3, api.ErrForm},
		{"the same, with nothing behind the rows", with(fine, 6, "\x00\x00")[:12], 3, api.ErrNone},
		{"another first number, and a part that isn't there", with(fine, 1, "\x01")[:12], 3, api.ErrForm},
		{"more rows than are there", with(fine, 2, "\x00\x05"), 3, api.ErrEnd},
		{"rows up to the last byte", with(fine+"    ", 2, "\x00\x05"), 3, api.OK},
		{"the most rows", with(fine, 2, "\xff\xff"), 3, api.ErrEnd},
		{"the most rows, one byte less than there must be", with(fine, 2, "\xff\xff") + strings.Repeat(" ", 4+8*65535-1-len(fine)), 3, api.ErrEnd},
		{"the most rows, all there", with(fine, 2, "\xff\xff") + strings.Repeat(" ", 4+8*65535-len(fine)), 3, api.OK},
	} {
		if l, e := cmap.Parse(c.s, c.glyphs); e != c.e || e != api.OK && len(l) != 0 {
			t.Errorf("%s: %v, %d; want %d", c.name, l, e, c.e)
		}
		checkParse(t, c.s, c.glyphs)
	}
}

// Parts of 12: which error is answered, at the edges and of several. The font has 10 glyphs.
func TestGroups(t *testing.T) {
	fine := alone([3]int{65, 66, 1}, [3]int{70, 79, 0})
	for _, c := range []struct {
		name string
		s    string
		e    api.Errno
	}{
		{"fine", fine, api.OK},
		{"no group", alone(), api.OK},
		{"15 bytes", fine[:12+15], api.ErrEnd},
		{"15 bytes, another first number", with(fine, 12, "\x00\x0d")[:12+15], api.ErrEnd},
		{"16 bytes", fine[:12+16], api.ErrEnd},
		{"16 bytes, another first number", with(fine, 12, "\x00\x0d")[:12+16], api.ErrForm},
		{"16 bytes, another second number", with(fine, 14, "\x00\x01")[:12+16], api.ErrForm},
		{"the first number 4", with(fine, 12, "\x00\x04"), api.ErrForm},
		{"the second number 2^15", with(fine, 14, "\x80\x00"), api.ErrForm},
		{"a length one less", with(fine, 16, wide(39)), api.ErrForm},
		{"a length one more", with(fine, 16, wide(41)), api.ErrForm},
		{"a length 0", with(fine, 16, wide(0)), api.ErrForm},
		{"the length of all bytes behind it", with(fine, 16, wide(24)), api.ErrForm},
		{"a group less than the length says", with(fine, 16, wide(52)), api.ErrForm},
		{"a group more than are there", with(fine, 16, wide(52, 0, 3)), api.ErrEnd},
		{"the same, and a wrong group", with(with(fine, 16, wide(52, 0, 3)), 28, wide(66, 65)), api.ErrEnd},
		{"the most groups, with the length that is right modulo 2^32", with(fine, 16, wide(16-12, 0, math.MaxUint32)), api.ErrForm},
		{"the same of 2^30 groups and one", with(alone([3]int{65, 66, 1}), 16, wide(28, 0, 1<<30+1)), api.ErrForm},
		{"the same of 2^31 groups", with(alone(), 16, wide(16, 0, 1<<31)), api.ErrForm},
		{"the most groups that a length has", with(fine, 16, wide(16+12*357913939, 0, 357913939)), api.ErrEnd},
		{"a group more, of which the length goes round to 0", with(fine, 16, wide(0, 0, 357913940)), api.ErrForm},
		{"a byte less", fine[:len(fine)-1], api.ErrEnd},
		{"a byte less, and a wrong first group", with(fine, 28, wide(66, 65))[:len(fine)-1], api.ErrEnd},
		{"any number in its place", with(fine, 20, wide(math.MaxUint32)), api.OK},

		{"From 0", alone([3]int{0, 0, 9}), api.OK},
		{"To below From", alone([3]int{66, 65, 1}), api.ErrForm},
		{"To 0, From 1", alone([3]int{1, 0, 1}), api.ErrForm},
		{"the greatest code point", alone([3]int{0x10fffe, 0x10ffff, 1}), api.OK},
		{"one above it", alone([3]int{0x10fffe, 0x110000, 1}), api.ErrForm},
		{"all above it", alone([3]int{0x110000, 0x110000, 1}), api.ErrForm},
		{"the greatest number", alone([3]int{math.MaxUint32, math.MaxUint32, 1}), api.ErrForm},
		{"To the greatest number", alone([3]int{65, math.MaxUint32, 1}), api.ErrForm},
		{"From 2^31", alone([3]int{1 << 31, 65, 1}), api.ErrForm},
		{"From right above the To ahead", alone([3]int{65, 66, 1}, [3]int{67, 67, 9}), api.OK},
		{"From the To ahead", alone([3]int{65, 66, 1}, [3]int{66, 67, 1}), api.ErrForm},
		{"From the From ahead", alone([3]int{65, 66, 1}, [3]int{65, 67, 1}), api.ErrForm},
		{"From below the one ahead", alone([3]int{65, 66, 1}, [3]int{60, 61, 1}), api.ErrForm},
		{"From 0, again", alone([3]int{0, 0, 1}, [3]int{0, 0, 1}), api.ErrForm},
		{"From 0, behind others", alone([3]int{1, 1, 1}, [3]int{0, 0, 1}), api.ErrForm},

		{"the last glyph", alone([3]int{65, 73, 1}), api.OK},
		{"the last glyph, from 0 on", alone([3]int{65, 74, 0}), api.OK},
		{"one glyph more", alone([3]int{65, 74, 1}), api.ErrForm},
		{"one glyph more, from 0 on", alone([3]int{65, 75, 0}), api.ErrForm},
		{"one glyph more, alone", alone([3]int{65, 65, 10}), api.ErrForm},
		{"the greatest glyph", alone([3]int{65, 65, math.MaxUint32}), api.ErrForm},
		{"glyphs that would go round", alone([3]int{65, 66, math.MaxUint32}), api.ErrForm},
		{"glyph 2^31", alone([3]int{65, 65, 1 << 31}), api.ErrForm},
		{"glyph 65537", alone([3]int{65, 65, 65537}), api.ErrForm},
		{"all code points in a group", alone([3]int{0, 0x10ffff, 0}), api.ErrForm},
	} {
		if l, e := cmap.Parse(c.s, 10); e != c.e || e != api.OK && len(l) != 0 {
			t.Errorf("%s: %v, %d; want %d", c.name, l, e, c.e)
		}
		checkParse(t, c.s, 10)
	}
}

// Parts of 4: which error is answered, at the edges and of several. The font has 10 glyphs.
func TestSegments(t *testing.T) {
	fine := alone4([]segment{{from: 65, to: 66, delta: 1 - 65}, {from: 70, to: 71, jump: jump(3, 1, 0)}, last()}, 8, 9)
	size := len(fine) - 12
	for _, c := range []struct {
		name string
		s    string
		e    api.Errno
	}{
		{"fine", fine, api.OK},
		{"13 bytes", fine[:12+13], api.ErrEnd},
		{"13 bytes, another first number", with(fine, 12, "\x00\x05")[:12+13], api.ErrEnd},
		{"14 bytes", fine[:12+14], api.ErrEnd},
		{"14 bytes, another first number", with(fine, 12, "\x00\x05")[:12+14], api.ErrForm},
		{"14 bytes, a length that is odd", with(fine, 14, short(size+1))[:12+14], api.ErrForm},
		{"14 bytes, n 0", with(fine, 18, short(0))[:12+14], api.ErrForm},
		{"14 bytes, another power", with(fine, 22, short(2))[:12+14], api.ErrForm},
		{"the first number 12", with(fine, 12, "\x00\x0c"), api.ErrForm},
		{"the first number 1024", with(fine, 12, "\x04\x00"), api.ErrForm},
		{"a length that is odd", with(fine, 14, short(size-1)), api.ErrForm},
		{"a length that is odd, and all there", with(fine+"\x00", 14, short(size+1)), api.ErrForm},
		{"a length of less than the segments", with(fine, 14, short(16+8*3-2)), api.ErrForm},
		{"a length of the segments alone", with(fine, 14, short(16+8*3)), api.ErrEnd},
		{"a length of all but the last number", with(fine, 14, short(size-2)), api.ErrEnd},
		{"a length of two bytes more than are there", with(fine, 14, short(size+2)), api.ErrEnd},
		{"the same, with these", with(fine+"ab", 14, short(size+2)), api.OK},
		{"the same, with one of these", with(fine+"a", 14, short(size+2)), api.ErrEnd},
		{"the greatest even length", with(fine, 14, short(65534)), api.ErrEnd},
		{"the same, with all of them", with(fine+strings.Repeat("?", 65534-size), 14, short(65534)), api.OK},
		{"the greatest length, all there", with(fine+strings.Repeat("?", 65535-size), 14, short(65535)), api.ErrForm},
		{"a length 0", with(fine, 14, short(0)), api.ErrForm},
		{"a byte less", fine[:len(fine)-1], api.ErrEnd},
		{"a byte less, and the 0 isn't 0", with(fine, 32, short(1))[:len(fine)-1], api.ErrEnd},
		{"any number in its place", with(fine, 16, short(65535)), api.OK},

		{"twice n is odd", with(fine, 18, short(7)), api.ErrForm},
		{"twice n is 1", with(fine, 18, short(1, 2, 0, 0)), api.ErrForm},
		{"n 0", with(fine, 18, short(0)), api.ErrForm},
		{"n 0, and three numbers 0", with(fine, 18, short(0, 0, 0, 0)), api.ErrForm},
		{"n 0, and the numbers of n 1", with(fine, 18, short(0, 2, 0, 0)), api.ErrForm},
		{"n 8192 and the numbers of that, too much for any length", with(fine, 14, short(65534, 0, 16384, 16384, 13, 0)), api.ErrForm},
		{"n 8190 likewise", with(fine, 14, short(65534, 0, 16380, 8192, 12, 8188)), api.ErrForm},
		{"n 8189 is the most that a length has", with(fine, 14, short(65528, 0, 16378, 8192, 12, 8186)), api.ErrEnd},
		{"n 8193", with(fine, 14, short(65534, 0, 16386, 16384, 13, 2)), api.ErrForm},
		{"n 32767", with(fine, 14, short(65534, 0, 65534, 32768, 14, 32766)), api.ErrForm},
		{"the first number half of what it is", with(fine, 20, short(2)), api.ErrForm},
		{"the first number twice what it is", with(fine, 20, short(8)), api.ErrForm},
		{"the power one less", with(fine, 22, short(0)), api.ErrForm},
		{"the power one more", with(fine, 22, short(2)), api.ErrForm},
		{"the third number 0", with(fine, 24, short(0)), api.ErrForm},
		{"the third number of 16 in the place of 2", with(fine, 24, short(16)), api.ErrForm},

		{"the 0 isn't 0", with(fine, 32, short(1)), api.ErrForm},
		{"the 0 is 256", with(fine, 32, short(256)), api.ErrForm},
		{"the 0 isn't 0, and a place beyond the part", alone4([]segment{{from: 0, to: 0xffff, jump: 2}})[:12+16] + short(1, 0, 0, 2), api.ErrForm},
		{"all code points, and a place beyond the part", alone4([]segment{{from: 0, to: 0xffff, jump: 2}}), api.ErrEnd},
		{"one segment, To not FFFF", alone4([]segment{{from: 65, to: 65, delta: 1 - 65}}), api.ErrForm},
		{"one segment, To FFFE", alone4([]segment{{from: 0xfffe, to: 0xfffe, delta: 2}}), api.ErrForm},
		{"one segment, To FFFF", alone4([]segment{{from: 0xfffe, to: 0xffff, delta: 3}}), api.OK},
		{"the last To not FFFF", alone4([]segment{{from: 65, to: 65, delta: 1 - 65}, {from: 66, to: 66, delta: 1 - 66}}), api.ErrForm},
		{"FFFF ahead of the last one, too", alone4([]segment{last(), last()}), api.ErrForm},
		{"From right above the To ahead", alone4([]segment{{from: 65, to: 66, delta: 1 - 65}, {from: 67, to: 67, delta: 1 - 67}, last()}), api.OK},
		{"From the To ahead", alone4([]segment{{from: 65, to: 66, delta: 1 - 65}, {from: 66, to: 67, delta: 1 - 66}, last()}), api.ErrForm},
		{"From and To as those ahead", alone4([]segment{{from: 65, to: 65, delta: 1 - 65}, {from: 65, to: 65, delta: 1 - 65}, last()}), api.ErrForm},
		{"From and To below those ahead", alone4([]segment{{from: 65, to: 65, delta: 1 - 65}, {from: 60, to: 61, delta: 1 - 60}, last()}), api.ErrForm},
		{"From and To 0, twice", alone4([]segment{{}, {}, last()}), api.ErrForm},
		{"From above To", alone4([]segment{{from: 66, to: 65, delta: 1 - 66}, last()}), api.ErrForm},
		{"From above To, last", alone4([]segment{{from: 0xffff, to: 0xfffe, delta: 1}}), api.ErrForm},
		{"From 0", alone4([]segment{{from: 0, to: 9}, last()}), api.OK},

		{"Delta 9 of code 0", alone4([]segment{{delta: 9}, last()}), api.OK},
		{"Delta 10 of code 0", alone4([]segment{{delta: 10}, last()}), api.ErrForm},
		{"a Delta that goes round", alone4([]segment{{from: 0xfff0, to: 0xfff9, delta: 16}, last()}), api.OK},
		{"a Delta that goes round, a glyph more", alone4([]segment{{from: 0xfff0, to: 0xfffa, delta: 16}, last()}), api.ErrForm},
		{"a Delta by which the first glyph is FFFF", alone4([]segment{{from: 65, to: 66, delta: -66}, last()}), api.ErrForm},
		{"FFFF of the last glyph", alone4([]segment{{from: 0xffff, to: 0xffff, delta: 10}}), api.OK},
		{"FFFF of a glyph more", alone4([]segment{{from: 0xffff, to: 0xffff, delta: 11}}), api.ErrForm},
		{"FFFF of glyph FFFF", alone4([]segment{{from: 0xffff, to: 0xffff}}), api.ErrForm},

		{"a Jump of 1", alone4([]segment{{from: 65, to: 65, jump: 1}, last()}, 1, 1), api.ErrForm},
		{"a Jump of FFFF", alone4([]segment{{from: 65, to: 65, jump: 0xffff}, last()}), api.ErrForm},
		{"a Jump of FFFE", alone4([]segment{{from: 65, to: 65, jump: 0xfffe}, last()}), api.ErrEnd},
		{"a Jump of 2, to the Jump behind", alone4([]segment{{from: 65, to: 65, jump: 2}, last()}), api.OK},
		{"an odd Jump of the last one", alone4([]segment{{from: 65, to: 65}, {from: 0xffff, to: 0xffff, jump: 3}}, 1, 1), api.ErrForm},
		{"a number that is the last glyph", alone4([]segment{{from: 65, to: 65, jump: jump(2, 0, 0)}, last()}, 9), api.OK},
		{"a number that is a glyph more", alone4([]segment{{from: 65, to: 65, jump: jump(2, 0, 0)}, last()}, 10), api.ErrForm},
		{"a number that Delta makes the last glyph", alone4([]segment{{from: 65, to: 65, delta: 9 - 65535, jump: jump(2, 0, 0)}, last()}, 65535), api.OK},
		{"a number that Delta makes a glyph more", alone4([]segment{{from: 65, to: 65, delta: 11, jump: jump(2, 0, 0)}, last()}, 65535), api.ErrForm},
		{"a number 0, that Delta leaves", alone4([]segment{{from: 65, to: 65, delta: 11, jump: jump(2, 0, 0)}, last()}, 0), api.OK},
		{"a number that Delta makes 0", alone4([]segment{{from: 65, to: 65, delta: -500, jump: jump(2, 0, 0)}, last()}, 500), api.OK},
		{"a number of FFFF, by a Jump", alone4([]segment{{from: 65, to: 65}, {from: 0xffff, to: 0xffff, jump: 2}}, 9), api.ErrForm},
		{"a place right at the part's end", alone4([]segment{{from: 65, to: 65, jump: jump(2, 0, 1)}, last()}, 9), api.ErrEnd},
		{"a place right at the part's end, with bytes behind", alone4([]segment{{from: 65, to: 65, jump: jump(2, 0, 1)}, last()}, 9) + "\x00\x00\x00\x00", api.ErrEnd},
		{"the last place of several beyond the end", alone4([]segment{{from: 65, to: 67, jump: jump(2, 0, 0)}, last()}, 9, 9), api.ErrEnd},

		{"an odd Jump, and a place beyond the end", alone4([]segment{{from: 65, to: 67, jump: 99}, last()}), api.ErrForm},
		{"a place beyond the end, and a wrong segment behind", alone4([]segment{{from: 65, to: 67, jump: 98}, {from: 65, to: 65}, last()}), api.ErrEnd},
		{"a place beyond the end, and an odd Jump behind", alone4([]segment{{from: 65, to: 67, jump: 98}, {from: 68, to: 69, jump: 1}, last()}), api.ErrEnd},
		{"a place beyond the end, and the last To not FFFF", alone4([]segment{{from: 65, to: 67, jump: 98}, {from: 68, to: 69}}), api.ErrEnd},
		{"the last To not FFFF, and a place of it beyond the end", alone4([]segment{{from: 65, to: 67, jump: 98}}), api.ErrForm},
		{"a wrong glyph, and a place beyond the end behind it", alone4([]segment{{from: 65, to: 67, jump: jump(2, 0, 0)}, last()}, 9, 10), api.ErrForm},
		{"a wrong glyph, and a place beyond the end in the next segment", alone4([]segment{{from: 65, to: 65, jump: jump(3, 0, 0)}, {from: 66, to: 66, jump: 98}, last()}, 10), api.ErrForm},
		{"a place beyond the end, and a wrong glyph in the next segment", alone4([]segment{{from: 65, to: 66, jump: jump(3, 0, 0)}, {from: 67, to: 67}, last()}, 9), api.ErrEnd},
		{"From not above the To ahead, and a place beyond the end", alone4([]segment{{from: 65, to: 65, delta: 1 - 65}, {from: 65, to: 66, jump: 98}, last()}), api.ErrForm},
	} {
		if l, e := cmap.Parse(c.s, 10); e != c.e || e != api.OK && len(l) != 0 {
			t.Errorf("%s: %v, %d; want %d", c.name, l, e, c.e)
		}
		checkParse(t, c.s, 10)
	}
}

// As many pairs as may be, and one more, with what else is wrong thereabouts. The font has 1024 glyphs.
func TestMost(t *testing.T) {
	four := [][3]int{{0, 1022, 1}, {2000, 3022, 1}, {4000, 5022, 1}, {6000, 7022, 1}} // 4092 pairs
	var same []segment
	for _, g := range four {
		same = append(same, segment{from: g[0], to: g[1], delta: g[2] - g[0]})
	}
	for _, c := range []struct {
		name     string
		groups   [][3]int
		segments []segment
		numbers  []int
		e        api.Errno
	}{
		{"4096", [][3]int{{8000, 8003, 1}}, []segment{{from: 8000, to: 8003, delta: 1 - 8000}}, nil, api.OK},
		{"4097", [][3]int{{8000, 8004, 1}}, []segment{{from: 8000, to: 8004, delta: 1 - 8000}}, nil, api.ErrLong},
		{"4096, and code points of glyph 0", [][3]int{{8000, 8004, 0}, {8005, 8005, 0}}, []segment{{from: 8000, to: 8004, delta: -8000}, {from: 8005, to: 8005, delta: -8005}}, nil, api.OK},
		{"4097, the last one behind code points of glyph 0", [][3]int{{8000, 8004, 0}, {8005, 8006, 0}}, []segment{{from: 8000, to: 8004, delta: -8000}, {from: 8005, to: 8006, delta: -8005}}, nil, api.ErrLong},
		{"4096, and a wrong glyph", [][3]int{{8000, 8003, 1}, {8004, 8004, 1024}}, []segment{{from: 8000, to: 8003, delta: 1 - 8000}, {from: 8004, to: 8004, delta: 1024 - 8004}}, nil, api.ErrForm},
		{"4097, and a wrong glyph", [][3]int{{8000, 8003, 1}, {8004, 8005, 1023}}, []segment{{from: 8000, to: 8003, delta: 1 - 8000}, {from: 8004, to: 8005, delta: 1023 - 8004}}, nil, api.ErrLong},
		{"4097, and a wrong segment", [][3]int{{8000, 8004, 1}, {8000, 8000, 1}}, []segment{{from: 8000, to: 8004, delta: 1 - 8000}, {from: 8000, to: 8000, jump: 1}}, nil, api.ErrLong},
		{"a wrong segment, and 4097", [][3]int{{8000, 8003, 1}, {8003, 8008, 1}}, []segment{{from: 8000, to: 8003, delta: 1 - 8000}, {from: 8003, to: 8008, delta: 1 - 8003}}, nil, api.ErrForm},
		{"4096, and a place beyond the end", nil, []segment{{from: 8000, to: 8004, jump: jump(6, 4, 0)}}, []int{1, 1, 1, 1}, api.ErrEnd},
		{"4097, and a place beyond the end", nil, []segment{{from: 8000, to: 8005, jump: jump(6, 4, 0)}}, []int{1, 1, 1, 1, 1}, api.ErrLong},
	} {
		for _, s := range []string{
			alone(slices.Concat(four, c.groups)...),
			alone4(append(slices.Concat(same, c.segments), last()), c.numbers...),
		} {
			if c.groups == nil && s[7] == 10 {
				continue
			}
			l, e := cmap.Parse(s, 1024)
			if e != c.e || e == api.OK && len(l) != 4096 || e != api.OK && len(l) != 0 {
				t.Errorf("%s, for 3 and %d: %d pairs, %d; want %d", c.name, s[7], len(l), e, c.e)
			}
			checkParse(t, s, 1024)
		}
	}
}

// The greatest parts: as many segments as have room, and all bytes of a font in groups.
func TestGreat(t *testing.T) {
	var l []segment
	for i := range 8188 {
		l = append(l, segment{from: 8 * i, to: 8*i + i%8, delta: 1 + i%1000 - 8*i})
	}
	many := alone4(append(slices.Clone(l), segment{from: 65504, to: 0xffff, delta: 1024 - 65504}))
	if e := checkParse(t, many, 1024); e != api.ErrLong {
		t.Error(e)
	}
	for i := range l {
		l[i].to, l[i].delta = l[i].from, -l[i].from
		if i%2 == 0 {
			l[i].delta++
		}
	}
	many = alone4(append(l, last()))
	if e := checkParse(t, many, 2); e != api.OK {
		t.Error(e)
	}
	if e := checkParse(t, many, 1); e != api.ErrForm {
		t.Error(e)
	}
	var groups [][3]int
	for i := range 87000 {
		groups = append(groups, [3]int{12 * i, 12*i + i%2, 0})
	}
	for _, glyphs := range []int{1, 2, 1024} {
		want := api.ErrLong
		if glyphs == 1 {
			want = api.ErrForm
		}
		if e := checkParse(t, alone(groups...), glyphs); e != want {
			t.Errorf("%d: %d; want %d", glyphs, e, want)
		}
	}
	for i := range groups {
		groups[i][1] = groups[i][0] + max(0, i%21-19)
	}
	if e := checkParse(t, alone(groups[:86000]...), 2); e != api.OK {
		t.Error(e)
	}
	// Numbers for all code points that there are: the part's end comes ahead of the last of them.
	zeros := make([]int, (65534-24)/2)
	if e := checkParse(t, alone4([]segment{{from: 0, to: 0xffff, jump: 2}}, zeros...), 1); e != api.ErrEnd {
		t.Error(e)
	}
	if e := checkParse(t, alone4([]segment{{from: 65536 - len(zeros), to: 0xffff, jump: 2}}, zeros...), 1); e != api.OK {
		t.Error(e)
	}
}

// Each number of segments that has room: the numbers that tell of them, and others in their place.
func TestCounts(t *testing.T) {
	for n := 1; n <= 8189; n++ {
		if n > 70 && n < 8180 && n&(n-1) > 0 && n&(n+1) > 0 && n%101 > 0 {
			continue
		}
		var l []segment
		for i := range n - 1 {
			l = append(l, segment{from: i, to: i, delta: -i})
		}
		s := alone4(append(l, last()))
		if e := checkParse(t, s, 1); e != api.OK {
			t.Fatalf("%d: %d", n, e)
		}
		for at := 18; at < 26; at++ {
			for _, by := range []byte{1, 2, 255, 254, 128} {
				if e := checkParse(t, with(s, at, string([]byte{s[at] + by})), 1); e != api.ErrForm {
					t.Fatalf("%d, byte %d by %d more: %d", n, at, by, e)
				}
			}
		}
	}
}

// Each beginning of tables in which nothing is wrong, with each number of glyphs that is at an edge.
func TestBeginnings(t *testing.T) {
	for _, s := range some() {
		for n := range len(s) + 1 {
			for _, glyphs := range []int{-1, 0, 1, 2, 11, 12, 13, 1024, 1025} {
				e := checkParse(t, s[:n], glyphs)
				if ok := n == len(s) && glyphs >= 12 && glyphs <= 1024; ok && e != api.OK {
					t.Errorf("Parse(%q, %d): %d", s[:n], glyphs, e)
				}
			}
		}
	}
}

// Each byte of tables in which nothing is wrong, turned into each other one.
func TestEachByte(t *testing.T) {
	seen := map[api.Errno]int{}
	for _, s := range some() {
		for at := range s {
			for n := range 256 {
				seen[checkParse(t, with(s, at, string([]byte{byte(n)})), 12)]++
			}
		}
	}
	for _, e := range []api.Errno{api.OK, api.ErrEnd, api.ErrForm, api.ErrNone} {
		if seen[e] < 100 {
			t.Errorf("%d is answered %d times", e, seen[e])
		}
	}
}

// All that the two bytes at each place of a table can say.
func TestEachNumber(t *testing.T) {
	for _, s := range []string{
		alone([3]int{65, 66, 1}, [3]int{70, 71, 3}),
		alone4([]segment{{from: 65, to: 66, delta: 1 - 65}, {from: 70, to: 71, delta: 1, jump: jump(3, 1, 0)}, last()}, 2, 3),
	} {
		for at := 0; at < len(s); at += 2 {
			for n := range 65536 {
				checkParse(t, with(s, at, short(n)), 5)
			}
		}
	}
}

func TestMay(t *testing.T) {
	fine := []api.Pair{{Code: 0, Glyph: 1}, {Code: 65, Glyph: 9}, {Code: 0x10ffff, Glyph: 1}}
	change := func(i, code, glyph int) []api.Pair {
		out := slices.Clone(fine)
		out[i] = api.Pair{Code: code, Glyph: glyph}
		return out
	}
	for _, c := range []struct {
		name   string
		l      []api.Pair
		glyphs int
		ok     bool
	}{
		{"fine", fine, 10, true},
		{"the most glyphs", fine, 1024, true},
		{"one glyph more", fine, 1025, false},
		{"a glyph that there isn't", fine, 9, false},
		{"none, of no glyph", nil, 0, false},
		{"none, of one glyph", nil, 1, true},
		{"none, of a list", []api.Pair{}, 1, true},
		{"none, of the most glyphs", nil, 1024, true},
		{"none, of one glyph more", nil, 1025, false},
		{"none, of fewer glyphs than none", nil, -1, false},
		{"none, of the greatest number of glyphs", nil, math.MaxInt, false},
		{"none, of the least number of glyphs", nil, math.MinInt, false},
		{"some, of the least number of glyphs", fine, math.MinInt, false},
		{"one, of one glyph", line(1, 65, 1, 0, 0), 1, false},
		{"one, of two glyphs", line(1, 65, 1, 0, 0), 2, true},
		{"glyph 0", change(1, 65, 0), 10, false},
		{"glyph 0 alone, of one glyph", line(1, 65, 0, 0, 0), 1, false},
		{"a glyph below 0", change(1, 65, -1), 10, false},
		{"the least glyph", change(2, 66, math.MinInt), 10, false},
		{"the greatest glyph", change(0, 0, math.MaxInt), 10, false},
		{"a code below 0", change(0, -1, 1), 10, false},
		{"a code below 0, alone", line(1, -1, 1, 0, 0), 10, false},
		{"the least code", change(0, math.MinInt, 1), 10, false},
		{"the greatest code that may be, less one", change(2, 0x10fffe, 1), 10, true},
		{"a code above that may be", change(2, 0x110000, 1), 10, false},
		{"the greatest code", change(2, math.MaxInt, 1), 10, false},
		{"two of one code", change(1, 0, 1), 10, false},
		{"two of one code, at the end", change(1, 0x10ffff, 1), 10, false},
		{"two the same", change(2, 65, 9), 10, false},
		{"codes that fall", change(2, 64, 1), 10, false},
		{"glyphs that fall, or are the same", line(9, 65, 9, 1, -1), 10, true},
		{"4096", line(4096, 0, 1, 256, 0), 2, true},
		{"4097", line(4097, 0, 1, 256, 0), 2, false},
		{"4096, the last one wrong", append(line(4095, 0, 1, 256, 0), api.Pair{Code: 4094 * 256, Glyph: 1}), 2, false},
	} {
		if got := cmap.May(c.l, c.glyphs); got != c.ok {
			t.Errorf("%s: %t", c.name, got)
		}
		checkMay(t, c.l, c.glyphs)
		if c.glyphs != 1024 {
			continue
		}
		// What may be of the most glyphs is what can be made.
		if e := checkMake(t, c.l, true); (e == api.OK) != c.ok {
			t.Errorf("%s: made with %d", c.name, e)
		}
	}
}

// What may not be made.
func TestMakeErrors(t *testing.T) {
	for _, c := range []struct {
		name  string
		l     []api.Pair
		long  api.Errno
		short api.Errno
	}{
		{"none", nil, api.OK, api.OK},
		{"code FFFE", line(1, 0xfffe, 1, 0, 0), api.OK, api.OK},
		{"code FFFF", line(1, 0xffff, 1, 0, 0), api.OK, api.ErrArg},
		{"code FFFF, of glyph 0 by the segment that is one more", line(1, 0xffff, 0, 0, 0), api.ErrArg, api.ErrArg},
		{"code 10000 (base 16)", line(1, 0x10000, 1, 0, 0), api.OK, api.ErrArg},
		{"codes up to FFFE", line(16, 0xffef, 1, 1, 1), api.OK, api.OK},
		{"codes up to FFFF", line(16, 0xfff0, 1, 1, 1), api.OK, api.ErrArg},
		{"code 10041 (base 16), that goes round", line(1, 0x10041, 1, 0, 0), api.OK, api.ErrArg},
		{"the greatest code", line(1, 0x10ffff, 1, 0, 0), api.OK, api.ErrArg},
		{"a code more", line(1, 0x110000, 1, 0, 0), api.ErrArg, api.ErrArg},
		{"code -1", line(1, -1, 1, 0, 0), api.ErrArg, api.ErrArg},
		{"glyph 0", line(1, 65, 0, 0, 0), api.ErrArg, api.ErrArg},
		{"glyph 1023", line(1, 65, 1023, 0, 0), api.OK, api.OK},
		{"glyph 1024", line(1, 65, 1024, 0, 0), api.ErrArg, api.ErrArg},
		{"two of one code", line(2, 65, 1, 0, 1), api.ErrArg, api.ErrArg},
		{"falling codes", line(2, 65, 1, -1, 1), api.ErrArg, api.ErrArg},
		{"4096, each in a segment of its own", line(4096, 0, 1, 15, 0), api.OK, api.OK},
		{"4096, each in a segment of its own, one behind the other", line(4096, 0, 1, 1, 0), api.OK, api.OK},
		{"4097", line(4097, 0, 1, 15, 0), api.ErrArg, api.ErrArg},
	} {
		for _, long := range []bool{false, true} {
			want := c.short
			if long {
				want = c.long
			}
			if s, e := cmap.Make(c.l, long); e != want || e != api.OK && s != "" {
				t.Errorf("%s, %t: %d; want %d", c.name, long, e, want)
			}
			checkMake(t, c.l, long)
		}
	}
}

// Each code and each glyph that may be, and those about them.
func TestMakeNumbers(t *testing.T) {
	for code := -2; code < 0x110002; code++ {
		if code > 70000 && code < 0x10fff0 && code%211 > 0 {
			continue
		}
		l := line(1, code, 1+(code+2)%1023, 0, 0)
		long, short := api.OK, api.OK
		if code < 0 || code > 0x10ffff {
			long = api.ErrArg
		}
		if code < 0 || code > 0xfffe {
			short = api.ErrArg
		}
		if e := checkMake(t, l, true); e != long {
			t.Fatalf("%d: %d; want %d", code, e, long)
		}
		if e := checkMake(t, l, false); e != short {
			t.Fatalf("%d: %d; want %d", code, e, short)
		}
	}
	for glyph := -2; glyph < 1100; glyph++ {
		want := api.OK
		if glyph < 1 || glyph > 1023 {
			want = api.ErrArg
		}
		for _, long := range []bool{false, true} {
			if e := checkMake(t, line(1, 65, glyph, 0, 0), long); e != want {
				t.Fatalf("%d: %d; want %d", glyph, e, want)
			}
		}
	}
}

func TestFind(t *testing.T) {
	for n := range 40 {
		l := line(n, 5, 1, 3, 7)
		for code := -2; code < 5+3*n+5; code++ {
			want := 0
			for _, p := range l {
				if p.Code == code {
					want = p.Glyph
				}
			}
			if got := cmap.Find(l, code); got != want {
				t.Errorf("Find(%v, %d) = %d; want %d", l, code, got, want)
			}
		}
		for _, code := range []int{math.MinInt, math.MaxInt, -1 << 32, 1<<32 + 5, 0x110000} {
			if got := cmap.Find(l, code); got != 0 {
				t.Errorf("Find(%v, %d) = %d", l, code, got)
			}
		}
	}
	// Pairs that may be no font's: any numbers, as long as the codes rise.
	l := []api.Pair{{Code: math.MinInt, Glyph: -7}, {Code: -3, Glyph: math.MaxInt}, {Code: 65, Glyph: 0}, {Code: 1 << 40, Glyph: 5000}, {Code: math.MaxInt, Glyph: math.MinInt}}
	for _, p := range l {
		if got := cmap.Find(l, p.Code); got != p.Glyph {
			t.Errorf("Find(%d) = %d", p.Code, got)
		}
	}
	most := line(4096, 3, 1, 250, 0)
	for i := range most {
		most[i].Glyph = 1 + i%1023
	}
	for code := range 4096*250 + 9 {
		want := 0
		if code >= 3 && (code-3)%250 == 0 && (code-3)/250 < 4096 {
			want = 1 + (code-3)/250%1023
		}
		if got := cmap.Find(most, code); got != want {
			t.Fatalf("Find(%d) = %d; want %d", code, got, want)
		}
	}
}

// Pairs whose codes don't rise: whatever is answered, it is answered.
func TestFindAny(t *testing.T) {
	from := rand.New(rand.NewSource(3))
	for range 10000 {
		l := make([]api.Pair, from.Intn(9))
		for i := range l {
			l[i] = api.Pair{Code: from.Intn(5), Glyph: 1 + from.Intn(5)}
		}
		code := from.Intn(6)
		first := cmap.Find(l, code)
		if again := cmap.Find(l, code); again != first {
			t.Fatalf("Find(%v, %d) = %d, then %d", l, code, first, again)
		}
	}
}

// anyGroups is a table with a part of 12, in which little is wrong.
func anyGroups(from *rand.Rand, glyphs int) string {
	var l [][3]int
	code := from.Intn(9) - from.Intn(2)
	for range from.Intn(7) {
		n := 1 + from.Intn(1+from.Intn(6))
		l = append(l, [3]int{code, code + n - 1, from.Intn(max(1, glyphs-n+1)) + from.Intn(30)/29*from.Intn(4)})
		code += n + from.Intn(4) - from.Intn(40)/39
		if from.Intn(15) == 0 {
			code += from.Intn(0x110000)
		}
	}
	return alone(l...)
}

// anySegments is a table with a part of 4, in which little is wrong.
func anySegments(from *rand.Rand, glyphs int) string {
	n := 1 + from.Intn(6)
	var l []segment
	numbers := make([]int, from.Intn(9))
	for i := range numbers {
		numbers[i] = from.Intn(glyphs+1) - from.Intn(3)/2
	}
	code := from.Intn(9)
	for i := range n {
		size := 1 + from.Intn(1+from.Intn(5))
		g := segment{from: code, to: code + size - 1, delta: from.Intn(max(1, glyphs-size+1)) - code}
		if i == n-1 && from.Intn(20) > 0 {
			g = segment{from: 0x10000 - size, to: 0xffff, delta: from.Intn(max(1, glyphs-size+1)) + size}
		}
		if len(numbers) > 0 && from.Intn(2) == 0 {
			g.jump, g.delta = jump(n, i, from.Intn(max(1, len(numbers)-size+1)))+from.Intn(30)/29, from.Intn(2)
		}
		l = append(l, g)
		code += size + from.Intn(4) - from.Intn(40)/39
		if from.Intn(15) == 0 {
			code += from.Intn(0x8000)
		}
	}
	return alone4(l, numbers...)
}

// Any tables, of which most are fine or wrong at one place alone.
func TestReadAny(t *testing.T) {
	from := rand.New(rand.NewSource(12))
	for _, kind := range []func(from *rand.Rand, glyphs int) string{anyGroups, anySegments} {
		seen := map[api.Errno]int{}
		for range 60000 {
			glyphs := 1 + from.Intn(20)
			s := kind(from, glyphs)
			switch from.Intn(8) {
			case 0:
				s = with(s, from.Intn(len(s)), string([]byte{byte(from.Intn(256))}))
			case 1:
				s = s[:from.Intn(len(s))]
			case 2:
				s += "\x00\x01\x02\x03"[:from.Intn(5)]
			}
			seen[checkParse(t, s, glyphs)]++
		}
		for _, e := range []api.Errno{api.OK, api.ErrEnd, api.ErrForm, api.ErrNone} {
			if seen[e] < 100 {
				t.Errorf("%d is answered %d times", e, seen[e])
			}
		}
	}
	for range 20000 {
		b := make([]byte, from.Intn(80))
		from.Read(b)
		for i := range b {
			if from.Intn(3) > 0 {
				b[i] = byte(from.Intn(3)) * byte(from.Intn(6))
			}
		}
		checkParse(t, string(b), 1+from.Intn(1024))
	}
}

// Any pairs, of which most may be; what is made is parsed to itself.
func TestMadeAny(t *testing.T) {
	from := rand.New(rand.NewSource(13))
	seen := map[api.Errno]int{}
	for range 30000 {
		var l []api.Pair
		code, glyph := from.Intn(3), 1+from.Intn(1020)
		for range from.Intn(1 + from.Intn(60)) {
			l = append(l, api.Pair{Code: code, Glyph: glyph})
			code, glyph = code+1, glyph+1
			if from.Intn(5) == 0 {
				code += from.Intn(3) - from.Intn(30)/29
			}
			if from.Intn(5) == 0 || glyph > 1023 {
				glyph = 1 + from.Intn(1023) - from.Intn(80)/79*from.Intn(1024)
			}
			if from.Intn(30) == 0 {
				code += from.Intn(0x8000)
			}
			if from.Intn(300) == 0 {
				code += 0x80000
			}
		}
		checkMay(t, l, 1+from.Intn(1025))
		seen[checkMake(t, l, true)]++
		seen[checkMake(t, l, false)]++
	}
	for _, e := range []api.Errno{api.OK, api.ErrArg} {
		if seen[e] < 1000 {
			t.Errorf("%d is answered %d times", e, seen[e])
		}
	}
}

// What is answered is the caller's own, and what is handed in is left as it is.
func TestOwn(t *testing.T) {
	l := append(line(5, 65, 1, 1, 1), line(3, 900, 2, 2, 0)...)
	for _, long := range []bool{false, true} {
		in := slices.Clone(l)
		s, e := cmap.Make(in, long)
		if e != api.OK || !cmap.May(in, 6) || cmap.Find(in, 902) != 2 || !slices.Equal(in, l) {
			t.Errorf("%v, %d", in, e)
		}
		in[0].Code = 66
		for range 2 {
			got, e := cmap.Parse(s, 6)
			if !slices.Equal(got, l) || e != api.OK {
				t.Errorf("%v, %d", got, e)
			}
			got[0].Glyph = 9
		}
	}
}
