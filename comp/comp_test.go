package comp_test

import (
	"fmt"
	"math"
	"math/rand"
	"slices"
	"strings"
	"testing"

	"pochoir/api"
	"pochoir/comp"
)

// start is what stands ahead of the parts.
const start = "\xff\xffany byte"

// far are numbers that are far from all bounds, or that are within them once they go round.
var far = []int{math.MinInt, math.MinInt + 1, -1 << 32, 1<<32 + 1, -1 << 16, 1 << 16, 1<<16 + 1, 1 << 24, 1 << 31, math.MaxInt - 1, math.MaxInt}

// plainPart is a part of a glyph, not turned and not moved.
func plainPart(glyph int) api.Part {
	return api.Part{Glyph: glyph, A: 16384, D: 16384}
}

// brief is parts in a text that isn't too long.
func brief(l []api.Part) string {
	return fmt.Sprintf("%.300s", fmt.Sprint(l))
}

// checkParse holds Parse against the chapter's words.
func checkParse(t *testing.T, s string, glyphs int) api.Errno {
	t.Helper()
	want, f := parsed(s, glyphs)
	got, e := comp.Parse(s, glyphs)
	if e != f || !slices.Equal(got, want) {
		t.Fatalf("Parse(%.300q of %d bytes, %d) = %s, %d; want %s, %d", s, len(s), glyphs, brief(got), e, brief(want), f)
	}
	if e == api.OK && !comp.May(got, glyphs) {
		t.Fatalf("Parse(%.300q of %d bytes, %d) = %s, which may not be", s, len(s), glyphs, brief(got))
	}
	return e
}

// checkMake holds May and Make against the chapter's words; what is made is parsed to itself, whatever stands behind it, and not without its last byte.
func checkMake(t *testing.T, l []api.Part) api.Errno {
	t.Helper()
	if got, want := comp.May(l, 1024), may(l, 1024); got != want {
		t.Fatalf("May(%s of %d, 1024) = %t; want %t", brief(l), len(l), got, want)
	}
	want, f := made(l)
	got, e := comp.Make(l)
	if got != want || e != f {
		t.Fatalf("Make(%s) = %.300q, %d; want %.300q, %d", brief(l), got, e, want, f)
	}
	if e != api.OK {
		return e
	}
	if !comp.Is(got) {
		t.Fatalf("Is of what is made of %s is false", brief(l))
	}
	for _, more := range []string{"", "\x00", "more"} {
		if again, e := comp.Parse(got+more, 1024); !slices.Equal(again, l) || e != api.OK {
			t.Fatalf("Parse of what is made of %s, and %q = %s, %d", brief(l), more, brief(again), e)
		}
	}
	if again, e := comp.Parse(got[:len(got)-1], 1024); len(again) != 0 || e != api.ErrEnd {
		t.Fatalf("Parse of what is made of %s, without the last byte = %s, %d", brief(l), brief(again), e)
	}
	return e
}

// checkMove holds Move against the chapter's words.
func checkMove(t *testing.T, p api.Part, x, y int) api.Errno {
	t.Helper()
	wantX, wantY, f := moved(p, x, y)
	gotX, gotY, e := comp.Move(p, x, y)
	if gotX != wantX || gotY != wantY || e != f {
		t.Fatalf("Move(%v, %d, %d) = %d, %d, %d; want %d, %d, %d", p, x, y, gotX, gotY, e, wantX, wantY, f)
	}
	return e
}

// expect holds Parse against an error that is told in the test, and against the chapter's words.
func expect(t *testing.T, name, s string, glyphs int, want api.Errno) {
	t.Helper()
	if l, e := comp.Parse(s, glyphs); e != want || e != api.OK && len(l) != 0 {
		t.Errorf("%s: Parse(%.100q of %d bytes, %d) = %s, %d; want %d", name, s, len(s), glyphs, brief(l), e, want)
	}
	checkParse(t, s, glyphs)
}

// with is s with other bytes at a place.
func with(s string, at int, bytes string) string {
	return s[:at] + bytes + s[at+len(bytes):]
}

// row is bytes of n parts of one byte each way; bits are those of the last one.
func row(n, bits int) string {
	return start + strings.Repeat(short(0x22, 0)+"\x01\x02", n-1) + short(bits, 0) + "\x01\x02"
}

// some is glyphs in which nothing is wrong, in a font of 300 glyphs and more.
func some() []string {
	return []string{
		start + "\x00\x02\x00\x00\x05\xfb",
		start + "\x00\x03\x01\x2b\x7f\xff\x80\x00",
		start + "\x00\x0a\x00\x01\x05\xfb\x20\x00",
		start + "\x00\x42\x00\x02\x05\xfb\x20\x00\xe0\x00",
		start + "\x00\x82\x00\x03\x05\xfb\x20\x00\xe0\x00\x00\x01\xff\xff",
		"\x80\x00any byte" + "\x00\x22\x00\x00\x05\xfb" + "\x00\x2b\x00\x10\x01\x00\xff\x00\x40\x00" + "\x00\xa3\x00\x11\x00\x00\x00\x01\x40\x00\x00\x00\x00\x00\x40\x00" + "\x17\x46\x00\x05\x80\x7f\x00\x00\x7f\xff",
	}
}

func TestExample(t *testing.T) {
	p := api.Part{A: 8192, D: 16384}
	if x, y, e := comp.Move(p, 3, 5); x != 2 || y != 5 || e != api.OK {
		t.Errorf("%d, %d, %d", x, y, e)
	}
	p.DX, p.DY = 100, -200
	if x, y, e := comp.Move(p, 3, 5); x != 102 || y != -195 || e != api.OK {
		t.Errorf("%d, %d, %d", x, y, e)
	}
}

// All numbers that bytes can begin with, and bytes that are too few for one.
func TestIs(t *testing.T) {
	for n := range 65536 {
		for _, more := range []string{"", "\x00", "\xff", "any byte", "any bytes, and more"} {
			s := short(n) + more
			if got, want := comp.Is(s), n >= 32768; got != want || want != is(s) {
				t.Fatalf("Is(%q) = %t", s, got)
			}
		}
	}
	if comp.Is("") {
		t.Error("no bytes")
	}
	for b := range 256 {
		if s := string([]byte{byte(b)}); comp.Is(s) {
			t.Errorf("Is(%q)", s)
		}
	}
}

// All numbers that bytes can begin with, where all else is fine, and where nothing else is there.
func TestFirst(t *testing.T) {
	for n := range 65536 {
		want, few := api.OK, api.ErrEnd
		if n < 32768 {
			want, few = api.ErrForm, api.ErrForm
		}
		for _, s := range some() {
			s = with(s, 0, short(n))
			if l, e := comp.Parse(s, 300); e != want || (e == api.OK) != (len(l) != 0) {
				t.Fatalf("Parse(%q) = %v, %d; want %d", s, l, e, want)
			}
		}
		expect(t, "ten bytes", short(n)+"any byte", 300, few)
		expect(t, "nine bytes", short(n)+"any byt", 300, api.ErrEnd)
	}
}

// The bytes of glyphs, written out, as they are made.
func TestBytes(t *testing.T) {
	const zero = "\xff\xff\x00\x00\x00\x00\x00\x00\x00\x00"
	for _, c := range []struct {
		l []api.Part
		s string
	}{
		{[]api.Part{plainPart(0)}, zero + "\x00\x02\x00\x00\x00\x00"},
		{[]api.Part{plainPart(1023)}, zero + "\x00\x02\x03\xff\x00\x00"},
		{[]api.Part{{Glyph: 7, DX: 127, DY: -128, A: 16384, D: 16384}}, zero + "\x00\x02\x00\x07\x7f\x80"},
		{[]api.Part{{Glyph: 7, DX: -128, DY: 127, A: 16384, D: 16384}}, zero + "\x00\x02\x00\x07\x80\x7f"},
		{[]api.Part{{Glyph: 7, DX: 128, DY: 0, A: 16384, D: 16384}}, zero + "\x00\x03\x00\x07\x00\x80\x00\x00"},
		{[]api.Part{{Glyph: 7, DX: 0, DY: 128, A: 16384, D: 16384}}, zero + "\x00\x03\x00\x07\x00\x00\x00\x80"},
		{[]api.Part{{Glyph: 7, DX: -129, DY: 1, A: 16384, D: 16384}}, zero + "\x00\x03\x00\x07\xff\x7f\x00\x01"},
		{[]api.Part{{Glyph: 7, DX: -1, DY: -129, A: 16384, D: 16384}}, zero + "\x00\x03\x00\x07\xff\xff\xff\x7f"},
		{[]api.Part{{Glyph: 7, DX: 32767, DY: -32768, A: 16384, D: 16384}}, zero + "\x00\x03\x00\x07\x7f\xff\x80\x00"},
		{[]api.Part{{}}, zero + "\x00\x0a\x00\x00\x00\x00\x00\x00"},
		{[]api.Part{{A: 8192, D: 8192}}, zero + "\x00\x0a\x00\x00\x00\x00\x20\x00"},
		{[]api.Part{{A: -16384, D: -16384}}, zero + "\x00\x0a\x00\x00\x00\x00\xc0\x00"},
		{[]api.Part{{A: 8192, D: 16384}}, zero + "\x00\x42\x00\x00\x00\x00\x20\x00\x40\x00"},
		{[]api.Part{{A: 16384, D: -16384}}, zero + "\x00\x42\x00\x00\x00\x00\x40\x00\xc0\x00"},
		{[]api.Part{{A: 16384, B: 1, D: 16384}}, zero + "\x00\x82\x00\x00\x00\x00\x40\x00\x00\x01\x00\x00\x40\x00"},
		{[]api.Part{{A: 16384, C: 1, D: 16384}}, zero + "\x00\x82\x00\x00\x00\x00\x40\x00\x00\x00\x00\x01\x40\x00"},
		{[]api.Part{{A: 5, B: -6, C: 7, D: 5}}, zero + "\x00\x82\x00\x00\x00\x00\x00\x05\xff\xfa\x00\x07\x00\x05"},
		{[]api.Part{{Glyph: 1, DX: 300, DY: -300, A: -32768, B: 32767, C: 258, D: -2}}, zero + "\x00\x83\x00\x01\x01\x2c\xfe\xd4\x80\x00\x7f\xff\x01\x02\xff\xfe"},
		{[]api.Part{plainPart(3), {Glyph: 2, DX: 5, DY: -5, A: 1, D: 1}, {Glyph: 1, DX: 500, A: 1, D: 2}, {Glyph: 4, C: 9}},
			zero + "\x00\x22\x00\x03\x00\x00" + "\x00\x2a\x00\x02\x05\xfb\x00\x01" + "\x00\x63\x00\x01\x01\xf4\x00\x00\x00\x01\x00\x02" + "\x00\x82\x00\x04\x00\x00\x00\x00\x00\x00\x00\x09\x00\x00"},
		{[]api.Part{{Glyph: 4, C: 9}, {DX: 1, DY: 1, A: 16384, D: 16384}},
			zero + "\x00\xa2\x00\x04\x00\x00\x00\x00\x00\x00\x00\x09\x00\x00" + "\x00\x02\x00\x00\x01\x01"},
	} {
		if s, e := comp.Make(c.l); s != c.s || e != api.OK {
			t.Errorf("Make(%v) = %q, %d; want %q", c.l, s, e, c.s)
		}
		if l, e := comp.Parse(c.s, 1024); !slices.Equal(l, c.l) || e != api.OK {
			t.Errorf("Parse(%q) = %v, %d; want %v", c.s, l, e, c.l)
		}
		checkMake(t, c.l)
	}
}

// The bytes of glyphs as they aren't made, written out.
func TestParsedBytes(t *testing.T) {
	for _, c := range []struct {
		name, s string
		l       []api.Part
	}{
		{"another number below 0, any bytes", "\x80\x00\xff\xff\xff\xff\xff\xff\xff\xff" + "\x00\x02\x00\x09\x00\x00",
			[]api.Part{plainPart(9)}},
		{"near ones in two bytes", start + "\x00\x03\x00\x09\x00\x05\xff\xff",
			[]api.Part{{Glyph: 9, DX: 5, DY: -1, A: 16384, D: 16384}}},
		{"a number that need not be told", start + "\x00\x0a\x00\x09\x00\x00\x40\x00",
			[]api.Part{plainPart(9)}},
		{"two numbers that need not be told", start + "\x00\x42\x00\x09\x00\x00\x40\x00\x40\x00",
			[]api.Part{plainPart(9)}},
		{"two numbers that are the same", start + "\x00\x42\x00\x09\x00\x00\x00\x07\x00\x07",
			[]api.Part{{Glyph: 9, A: 7, D: 7}}},
		{"four numbers that need not be told", start + "\x00\x82\x00\x09\x00\x00\x40\x00\x00\x00\x00\x00\x40\x00",
			[]api.Part{plainPart(9)}},
		{"four numbers, of which two need not be told", start + "\x00\x82\x00\x09\x00\x00\x00\x07\x00\x00\x00\x00\x00\x08",
			[]api.Part{{Glyph: 9, A: 7, D: 8}}},
		{"bits 2, 8, 9, 10 and 12", start + "\x17\x26\x00\x09\x01\x02" + "\x17\x07\x00\x08\x00\x01\x00\x02",
			[]api.Part{{Glyph: 9, DX: 1, DY: 2, A: 16384, D: 16384}, {Glyph: 8, DX: 1, DY: 2, A: 16384, D: 16384}}},
		{"parts of one glyph", start + "\x00\x22\x00\x09\x00\x00" + "\x00\x22\x00\x09\x00\x00" + "\x00\x02\x00\x09\x00\x00",
			[]api.Part{plainPart(9), plainPart(9), plainPart(9)}},
	} {
		for _, more := range []string{"", "\x00", "\xff\xff\xff\xff", "more"} {
			if l, e := comp.Parse(c.s+more, 10); !slices.Equal(l, c.l) || e != api.OK {
				t.Errorf("%s: %v, %d; want %v", c.name, l, e, c.l)
			}
			checkParse(t, c.s+more, 10)
		}
	}
}

// Which error is answered, of one fault and of several.
func TestErrors(t *testing.T) {
	fine := start + "\x00\x22\x00\x01\x02\x03" + "\x00\x83\x00\x02\x00\x01\x00\x02\x00\x03\x00\x04\x00\x05\x00\x06"
	for _, c := range []struct {
		name, s string
		glyphs  int
		e       api.Errno
	}{
		{"fine", fine, 3, api.OK},
		{"no glyphs", fine, 0, api.ErrArg},
		{"too many glyphs", fine, 1025, api.ErrArg},
		{"fewer glyphs than none", fine, -1, api.ErrArg},
		{"as many glyphs as may be", fine, 1024, api.OK},
		{"no glyphs and no bytes", "", 0, api.ErrArg},
		{"too many glyphs, and a number above 0", with(fine, 0, "\x00\x01"), 1025, api.ErrArg},
		{"no bytes", "", 3, api.ErrEnd},
		{"a byte", "\xff", 3, api.ErrEnd},
		{"nine bytes", fine[:9], 3, api.ErrEnd},
		{"nine bytes, of no parts", "\x00\x00any byt", 3, api.ErrEnd},
		{"no parts", "\x00\x00any byte", 3, api.ErrForm},
		{"contours", with(fine, 0, "\x00\x01"), 3, api.ErrForm},
		{"contours, of the highest number", with(fine, 0, "\x7f\xff"), 3, api.ErrForm},
		{"ten bytes", fine[:10], 3, api.ErrEnd},
		{"half of the bits", fine[:11], 3, api.ErrEnd},
		{"no glyph", fine[:12], 3, api.ErrEnd},
		{"half a glyph", fine[:13], 3, api.ErrEnd},
		{"half a glyph, and a bit", with(fine, 10, "\x80\x22")[:13], 3, api.ErrEnd},
		{"half a glyph, and too great a one", with(fine, 12, "\x80")[:13], 3, api.ErrEnd},
		{"no glyph, and a bit", start + "\xff\xff", 3, api.ErrEnd},
		{"bit 1 isn't set, and nothing behind the glyph", start + "\x00\x00\x00\x01", 3, api.ErrForm},
		{"bit 4, and nothing behind the glyph", start + "\x00\x12\x00\x01", 3, api.ErrForm},
		{"two of the bits for numbers, and nothing behind the glyph", start + "\x00\x4a\x00\x01", 3, api.ErrForm},
		{"the glyph is one more than the last, and nothing behind it", start + "\x00\x02\x00\x03", 3, api.ErrForm},
		{"the glyph is the last, and nothing behind it", start + "\x00\x02\x00\x02", 3, api.ErrEnd},
		{"no DX", fine[:14], 3, api.ErrEnd},
		{"no DY", fine[:15], 3, api.ErrEnd},
		{"no second part", fine[:16], 3, api.ErrEnd},
		{"the first glyph is one more than the last", fine, 1, api.ErrForm},
		{"the second glyph is one more than the last", fine, 2, api.ErrForm},
		{"the second glyph, and nothing behind it", fine[:20], 2, api.ErrForm},
		{"a first part that is wrong, and half a second one", with(fine, 11, "\x23")[:19], 1, api.ErrForm},
		{"half a second part", fine[:17], 3, api.ErrEnd},
		{"three bytes of a second part", fine[:19], 3, api.ErrEnd},
		{"a second part without DX and DY", fine[:20], 3, api.ErrEnd},
		{"a second part with DX and half of DY", fine[:23], 3, api.ErrEnd},
		{"a second part without numbers", fine[:24], 3, api.ErrEnd},
		{"a second part with three numbers and a half", fine[:31], 3, api.ErrEnd},
		{"a second part that isn't all there, behind which none would follow", with(fine, 17, "\xa3")[:31], 3, api.ErrEnd},
		{"no third part", with(fine, 17, "\xa3"), 3, api.ErrEnd},
		{"the second part's bit 15", with(fine, 16, "\x80"), 3, api.ErrForm},
		{"the second part's bit 1", with(fine, 17, "\x81"), 3, api.ErrForm},
		{"the first part isn't all there, as its move is longer", start + "\x00\x23\x00\x01\x02\x03\x00", 3, api.ErrEnd},
		{"one number that isn't all there", start + "\x00\x0a\x00\x01\x02\x03\x00", 3, api.ErrEnd},
		{"two numbers, of which one is there", start + "\x00\x42\x00\x01\x02\x03\x00\x01", 3, api.ErrEnd},
		{"two numbers, of which one and a half are there", start + "\x00\x42\x00\x01\x02\x03\x00\x01\x00", 3, api.ErrEnd},
	} {
		expect(t, c.name, c.s, c.glyphs, c.e)
	}
}

// Every number of bits, of the only part and of the second of two, with so many bytes behind it.
func TestBits(t *testing.T) {
	const rest = "\x01\x02\x03\x04\x05\x06\x07\x08\x09\x0a\x0b\x0c\x0d\x0e\x0f\x10"
	for bits := range 65536 {
		for n := range len(rest) + 1 {
			checkParse(t, start+short(bits, 1)+rest[:n], 2)
		}
		s := start + short(bits, 1) + rest[:12] + "\x00\x02\x00\x01\x00\x00"
		checkParse(t, start+"\x00\x22\x00\x00\x01\x02"+s[len(start):], 2)
		// What the bits say, one by one, where no part follows.
		if bits&32 != 0 {
			continue
		}
		want := api.OK
		switch {
		case bits&2 == 0, bits&(16|2048|8192|16384|32768) != 0:
			want = api.ErrForm
		case bits&8 != 0 && bits&64 != 0, bits&8 != 0 && bits&128 != 0, bits&64 != 0 && bits&128 != 0:
			want = api.ErrForm
		}
		l, e := comp.Parse(s, 2)
		if e != want || len(l) != 1 && e == api.OK || len(l) != 0 && e != api.OK {
			t.Fatalf("bits %x: %v, %d; want %d", bits, l, e, want)
		}
		if e == api.OK && l[0] != said(bits) {
			t.Fatalf("bits %x: %v; want %v", bits, l[0], said(bits))
		}
	}
}

// said is the part of glyph 1 that bits say of the bytes 1, 2, 3 and so on.
func said(bits int) api.Part {
	p, n := api.Part{Glyph: 1, DX: 1, DY: 2, A: 16384, D: 16384}, 3
	if bits&1 != 0 {
		p.DX, p.DY, n = 0x102, 0x304, 5
	}
	next := func() int {
		n += 2
		return (n-2)*256 + n - 1
	}
	switch {
	case bits&8 != 0:
		p.A = next()
		p.D = p.A
	case bits&64 != 0:
		p.A = next()
		p.D = next()
	case bits&128 != 0:
		p.A = next()
		p.B = next()
		p.C = next()
		p.D = next()
	}
	return p
}

// All glyphs that two bytes can tell, in fonts of several sizes, of the only part, of the first and of the last.
func TestGlyphs(t *testing.T) {
	for _, glyphs := range []int{1, 2, 255, 256, 257, 1000, 1023, 1024} {
		for n := range 65536 {
			want := api.OK
			if n >= glyphs {
				want = api.ErrForm
			}
			p := api.Part{Glyph: n, DX: 1, DY: 2, A: 16384, D: 16384}
			other := plainPart(glyphs - 1)
			first, last := "\x00\x22"+short(n)+"\x01\x02", "\x00\x02"+short(n)+"\x01\x02"
			for _, c := range []struct {
				s string
				l []api.Part
			}{
				{start + last, []api.Part{p}},
				{start + first + "\x00\x02" + short(other.Glyph) + "\x00\x00", []api.Part{p, other}},
				{start + "\x00\x22" + short(other.Glyph) + "\x00\x00" + last, []api.Part{other, p}},
			} {
				l, e := comp.Parse(c.s, glyphs)
				if e != want || e == api.OK && !slices.Equal(l, c.l) || e != api.OK && len(l) != 0 {
					t.Fatalf("Parse(%q, %d) = %v, %d; want %d", c.s, glyphs, l, e, want)
				}
				if comp.May(c.l, glyphs) != (want == api.OK) {
					t.Fatalf("May(%v, %d)", c.l, glyphs)
				}
			}
		}
	}
}

// How many glyphs a font may have.
func TestFonts(t *testing.T) {
	s, l := start+"\x00\x02\x00\x00\x00\x00", []api.Part{plainPart(0)}
	check := func(n int) {
		want, may := api.ErrArg, n >= 1 && n <= 1024
		if may {
			want = api.OK
		}
		expect(t, "so many glyphs", s, n, want)
		if comp.May(l, n) != may {
			t.Errorf("May of %d glyphs", n)
		}
		if may {
			want = api.ErrEnd
		}
		expect(t, "so many glyphs, and no bytes", "", n, want)
	}
	for n := -1100; n <= 2200; n++ {
		check(n)
	}
	for _, n := range far {
		check(n)
	}
}

// How many parts there may be, and what is answered of the first that is one too many.
func TestParts(t *testing.T) {
	for _, n := range []int{1, 2, 63, 64} {
		l, e := comp.Parse(row(n, 2), 1)
		if e != api.OK || len(l) != n {
			t.Errorf("%d parts: %d, %d", n, len(l), e)
		}
		for i, p := range l {
			if p != (api.Part{DX: 1, DY: 2, A: 16384, D: 16384}) {
				t.Errorf("part %d of %d: %v", i, n, p)
			}
		}
		checkParse(t, row(n, 2), 1)
		expect(t, "a byte less", row(n, 2)[:len(row(n, 2))-1], 1, api.ErrEnd)
		expect(t, "a wrong last one", row(n, 0), 1, api.ErrForm)
	}
	for n := 65; n < 70; n++ {
		expect(t, "too many", row(n, 2), 1, api.ErrLong)
		expect(t, "too many, the last one wrong", row(n, 0), 1, api.ErrLong)
	}
	expect(t, "too many by far", row(500, 0), 1, api.ErrLong)
	expect(t, "63, and none behind them", row(63, 0x22), 1, api.ErrEnd)
	expect(t, "64, and none behind them", row(64, 0x22), 1, api.ErrLong)
	expect(t, "64, and half a one behind them", row(64, 0x22)+"\x00", 1, api.ErrLong)
	expect(t, "64, the last one wrong, and one more", row(64, 0x20)+"\x00\x02\x00\x00\x00\x00", 1, api.ErrForm)
	for n := range 70 {
		l := make([]api.Part, n)
		for i := range l {
			l[i] = api.Part{Glyph: i, DX: 100 * i, DY: -i, A: 16384, B: i % 3, D: 16384}
		}
		want := api.OK
		if n == 0 || n > 64 {
			want = api.ErrArg
		}
		if e := checkMake(t, l); e != want || comp.May(l, 1024) != (want == api.OK) {
			t.Errorf("Make of %d parts: %d", n, e)
		}
		if comp.May(l, n) != (n >= 1 && n <= 64) || comp.May(l, n-1) {
			t.Errorf("May of %d parts, with glyphs up to %d", n, n-1)
		}
	}
}

// field is how a part has one of its numbers, and the place of that, counted in numbers, where all have two bytes.
type field struct {
	name string
	of   func(*api.Part) *int
	at   int
}

// fields are all numbers of a part but its glyph.
func fields() []field {
	return []field{
		{"DX", func(p *api.Part) *int { return &p.DX }, 0},
		{"DY", func(p *api.Part) *int { return &p.DY }, 1},
		{"A", func(p *api.Part) *int { return &p.A }, 2},
		{"B", func(p *api.Part) *int { return &p.B }, 3},
		{"C", func(p *api.Part) *int { return &p.C }, 4},
		{"D", func(p *api.Part) *int { return &p.D }, 5},
	}
}

// All that two bytes can say, of each of a part's numbers, and all numbers that they can't say.
func TestNumbers(t *testing.T) {
	for _, f := range fields() {
		all := []int{300, -301, 302, -303, 304, -305}
		for n := -33000; n <= 33000; n++ {
			all[f.at] = n
			p := api.Part{Glyph: 5, DX: all[0], DY: all[1], A: all[2], B: all[3], C: all[4], D: all[5]}
			fine := n >= -32768 && n <= 32767
			if e := checkMake(t, []api.Part{p}); (e == api.OK) != fine {
				t.Fatalf("Make with %s %d: %d", f.name, n, e)
			}
			for _, l := range [][]api.Part{{p}, {plainPart(0), p}, {p, plainPart(0)}} {
				if comp.May(l, 6) != fine || comp.May(l, 5) {
					t.Fatalf("May with %s %d", f.name, n)
				}
			}
			s := start + short(0x83, 5) + short(all...)
			if l, e := comp.Parse(s, 6); fine && (e != api.OK || !slices.Equal(l, []api.Part{p})) {
				t.Fatalf("Parse with %s %d: %v, %d", f.name, n, l, e)
			}
		}
		for _, n := range far {
			p := plainPart(0)
			*f.of(&p) = n
			for _, l := range [][]api.Part{{p}, {plainPart(0), p}, {p, plainPart(0)}} {
				if e := checkMake(t, l); e != api.ErrArg || comp.May(l, 1) {
					t.Errorf("Make with %s %d: %d", f.name, n, e)
				}
			}
		}
	}
}

// All that one byte can say of DX and of DY; and all numbers at which one or two bytes are made.
func TestMoves(t *testing.T) {
	for a := range 256 {
		for b := range 256 {
			want := []api.Part{{DX: int(int8(a)), DY: int(int8(b)), A: 16384, D: 16384}}
			s := start + short(2, 0) + string([]byte{byte(a), byte(b)})
			if l, e := comp.Parse(s, 1); !slices.Equal(l, want) || e != api.OK {
				t.Fatalf("Parse(%q) = %v, %d; want %v", s, l, e, want)
			}
			if e := checkMake(t, want); e != api.OK {
				t.Fatalf("Make(%v): %d", want, e)
			}
		}
	}
	for n := -400; n <= 400; n++ {
		size := 20
		if n < -128 || n > 127 {
			size = 22
		}
		for other := -128; other <= 127; other += 51 {
			for _, p := range []api.Part{{DX: n, DY: other}, {DX: other, DY: n}} {
				p.A, p.D = 16384, 8192
				if s, e := comp.Make([]api.Part{p}); len(s) != size || e != api.OK {
					t.Fatalf("Make of %v: %q, %d", p, s, e)
				}
				checkMake(t, []api.Part{p})
			}
		}
	}
}

// Which of the four numbers are made, of all that are at or about those that need not be told.
func TestTurns(t *testing.T) {
	near := []int{-32768, -16384, -1, 0, 1, 8192, 16383, 16384, 16385, 32767}
	for _, a := range near {
		for _, b := range near {
			for _, c := range near {
				for _, d := range near {
					size := 24
					switch {
					case b != 0 || c != 0:
					case a != d:
						size = 20
					case a != 16384:
						size = 18
					default:
						size = 16
					}
					l := []api.Part{{A: a, B: b, C: c, D: d}}
					if s, e := comp.Make(l); len(s) != size || e != api.OK {
						t.Fatalf("Make of %v: %q, %d; want %d bytes", l, s, e, size)
					}
					checkMake(t, l)
				}
			}
		}
	}
}

// Each beginning of some glyphs, and each byte of them turned into each other one.
func TestEachByte(t *testing.T) {
	for _, s := range some() {
		if e := checkParse(t, s, 300); e != api.OK {
			t.Errorf("%q: %d", s, e)
		}
		for n := range s {
			expect(t, "a beginning", s[:n], 300, api.ErrEnd)
			for c := range 256 {
				checkParse(t, with(s, n, string([]byte{byte(c)})), 300)
			}
		}
		want, _ := comp.Parse(s, 300)
		for n := 2; n < 10; n++ {
			for c := range 256 {
				if got, e := comp.Parse(with(s, n, string([]byte{byte(c)})), 300); !slices.Equal(got, want) || e != api.OK {
					t.Errorf("%.50q with %d at %d: %v, %d", s, c, n, got, e)
				}
			}
		}
	}
}

// What may be, and what not, of glyphs and of parts of which one is wrong.
func TestMay(t *testing.T) {
	for _, c := range []struct {
		name   string
		l      []api.Part
		glyphs int
		may    bool
	}{
		{"one", []api.Part{plainPart(0)}, 1, true},
		{"one of zeros", []api.Part{{}}, 1, true},
		{"none", nil, 5, false},
		{"none, not nil", []api.Part{}, 5, false},
		{"none, of no glyphs", nil, 0, false},
		{"the last glyph", []api.Part{plainPart(4)}, 5, true},
		{"the one behind it", []api.Part{plainPart(5)}, 5, false},
		{"the one ahead of the first", []api.Part{plainPart(-1)}, 5, false},
		{"the last glyph of all", []api.Part{plainPart(1023)}, 1024, true},
		{"the one behind the last of all", []api.Part{plainPart(1024)}, 1024, false},
		{"the one behind the last of all, of more glyphs", []api.Part{plainPart(1024)}, 1025, false},
		{"the first one is wrong", []api.Part{plainPart(5), plainPart(0), plainPart(0)}, 5, false},
		{"the second one is wrong", []api.Part{plainPart(0), plainPart(-1), plainPart(0)}, 5, false},
		{"the last one is wrong", []api.Part{plainPart(0), plainPart(0), plainPart(5)}, 5, false},
		{"all are of one glyph", []api.Part{plainPart(3), plainPart(3), plainPart(3)}, 4, true},
		{"no glyphs", []api.Part{plainPart(0)}, 0, false},
		{"fewer glyphs than none", []api.Part{plainPart(-2)}, -1, false},
	} {
		if got := comp.May(c.l, c.glyphs); got != c.may || got != may(c.l, c.glyphs) {
			t.Errorf("%s: %t", c.name, got)
		}
		checkMake(t, c.l)
	}
	for _, n := range far {
		for _, l := range [][]api.Part{{plainPart(n)}, {plainPart(0), plainPart(n)}} {
			if s, e := comp.Make(l); comp.May(l, 1024) || comp.May(l, n) || s != "" || e != api.ErrArg {
				t.Errorf("glyph %d: %q, %d", n, s, e)
			}
		}
	}
}

// How halves, and what is just beside them, are rounded, above 0 and below.
func TestRounded(t *testing.T) {
	for _, c := range []struct {
		p        api.Part
		x, y     int
		toX, toY int
	}{
		{p: api.Part{A: 8192, D: 8192}, x: 1, y: -1, toX: 1, toY: 0},
		{p: api.Part{A: 8192, D: 8192}, x: 3, y: -3, toX: 2, toY: -1},
		{p: api.Part{A: 8191, D: 8191}, x: 1, y: -1, toX: 0, toY: 0},
		{p: api.Part{A: 8193, D: 8193}, x: 1, y: -1, toX: 1, toY: -1},
		{p: api.Part{A: -8192, D: -8192}, x: 1, y: -1, toX: 0, toY: 1},
		{p: api.Part{A: -8193, D: -8191}, x: 1, y: -1, toX: -1, toY: 0},
		// Halves come of both numbers together, and aren't rounded one by one.
		{p: api.Part{A: 4096, C: 4096, B: 4096, D: -12288}, x: 1, y: 1, toX: 1, toY: 0},
		{p: api.Part{A: 8192, C: 8192, B: 8192, D: -8192}, x: 1, y: 1, toX: 1, toY: 0},
		{p: api.Part{A: 8192, C: -8192, B: -8192, D: -8192}, x: 1, y: 2, toX: 0, toY: -1},
		{p: api.Part{A: 1, C: 8190, B: -1, D: -8191}, x: 1, y: 1, toX: 0, toY: 0},
		{p: api.Part{A: 1, C: 8191, B: -1, D: -8192}, x: 1, y: 1, toX: 1, toY: -1},
		// What a part is moved by comes behind the rounding.
		{p: api.Part{DX: -1, DY: -1, A: 8192, D: 8192}, x: 1, y: -1, toX: 0, toY: -1},
		{p: api.Part{DX: 7, DY: -7, A: 8192, D: 8192}, x: -3, y: 3, toX: 6, toY: -5},
		// A and B are of x, C and D of y; A and C are for x, B and D for y.
		{p: api.Part{A: 16384}, x: 5, y: 7, toX: 5, toY: 0},
		{p: api.Part{B: 16384}, x: 5, y: 7, toX: 0, toY: 5},
		{p: api.Part{C: 16384}, x: 5, y: 7, toX: 7, toY: 0},
		{p: api.Part{D: 16384}, x: 5, y: 7, toX: 0, toY: 7},
		{p: api.Part{B: 16384, C: -16384}, x: 5, y: 7, toX: -7, toY: 5},
		{p: api.Part{A: 16384, D: 16384}, x: -5, y: 7, toX: -5, toY: 7},
		{p: api.Part{DX: 3, DY: 4}, x: 32767, y: -32767, toX: 3, toY: 4},
	} {
		if x, y, e := comp.Move(c.p, c.x, c.y); x != c.toX || y != c.toY || e != api.OK {
			t.Errorf("Move(%v, %d, %d) = %d, %d, %d; want %d, %d", c.p, c.x, c.y, x, y, e, c.toX, c.toY)
		}
		checkMove(t, c.p, c.x, c.y)
	}
	for n := -32768; n <= 32767; n++ {
		for _, x := range []int{-3, -1, 1, 2, 3} {
			checkMove(t, api.Part{A: n, B: -n / 2, C: 1, D: n / 3}, x, -x)
			checkMove(t, api.Part{DX: -5, DY: 5, A: 8192, B: n, C: n, D: -8192}, x, x)
		}
	}
}

// Where what a point becomes is too great, either way, for x and for y.
func TestMoveOver(t *testing.T) {
	for _, c := range []struct {
		p    api.Part
		x, y int
		e    api.Errno
	}{
		{api.Part{DX: 32767}, 0, 0, api.OK},
		{api.Part{DX: -32767}, 0, 0, api.OK},
		{api.Part{DX: -32768}, 0, 0, api.ErrOver},
		{api.Part{DY: 32767}, 0, 0, api.OK},
		{api.Part{DY: -32767}, 0, 0, api.OK},
		{api.Part{DY: -32768}, 0, 0, api.ErrOver},
		{api.Part{DX: 1, A: 16384, D: 16384}, 32766, 0, api.OK},
		{api.Part{DX: 1, A: 16384, D: 16384}, 32767, 0, api.ErrOver},
		{api.Part{DX: -1, A: 16384, D: 16384}, -32766, 0, api.OK},
		{api.Part{DX: -1, A: 16384, D: 16384}, -32767, 0, api.ErrOver},
		{api.Part{DY: 1, A: 16384, D: 16384}, 0, 32766, api.OK},
		{api.Part{DY: 1, A: 16384, D: 16384}, 0, 32767, api.ErrOver},
		{api.Part{DY: -1, A: 16384, D: 16384}, 0, -32766, api.OK},
		{api.Part{DY: -1, A: 16384, D: 16384}, 0, -32767, api.ErrOver},
		// -32768, turned to 1, is back within the bounds.
		{api.Part{DX: -32768, A: 16384, D: 16384}, 1, 0, api.OK},
		{api.Part{DX: -32768, A: 8192, D: 16384}, 1, 0, api.OK},
		{api.Part{DX: -32768, A: 8191, D: 16384}, 1, 0, api.ErrOver},
		// Halves at the edge: 32767 and a half is 32768, -32767 and a half is -32767.
		{api.Part{DX: 32767, A: 8191}, 1, 0, api.OK},
		{api.Part{DX: 32767, A: 8192}, 1, 0, api.ErrOver},
		{api.Part{DX: -32767, A: -8192}, 1, 0, api.OK},
		{api.Part{DX: -32767, A: -8193}, 1, 0, api.ErrOver},
		{api.Part{DY: 32767, D: 8191}, 0, 1, api.OK},
		{api.Part{DY: 32767, D: 8192}, 0, 1, api.ErrOver},
		{api.Part{DY: -32767, D: -8192}, 0, 1, api.OK},
		{api.Part{DY: -32767, D: -8193}, 0, 1, api.ErrOver},
		// The greatest that may come of numbers that may be, and beyond what 32 bits hold.
		{api.Part{A: -32768, C: -32768}, -32767, -32767, api.ErrOver},
		{api.Part{B: -32768, D: -32768}, -32767, -32767, api.ErrOver},
		{api.Part{A: -32768, C: -32768}, 32767, 32767, api.ErrOver},
		{api.Part{DX: 32767, A: -32768, C: -32768}, -32767, -32767, api.ErrOver},
		{api.Part{DX: -32768, A: -32768, C: -32768}, 32767, 32767, api.ErrOver},
		{api.Part{DX: -32768, A: -32768, C: -32768, D: 16384}, -32767, 0, api.OK},
		{api.Part{A: 32767, C: 32767}, 16384, -16384, api.OK},
		{api.Part{A: 32767, C: -32768}, 32767, 32767, api.OK},
	} {
		x, y, e := comp.Move(c.p, c.x, c.y)
		if e != c.e || e != api.OK && (x != 0 || y != 0) {
			t.Errorf("Move(%v, %d, %d) = %d, %d, %d; want %d", c.p, c.x, c.y, x, y, e, c.e)
		}
		checkMove(t, c.p, c.x, c.y)
	}
}

// What may not be moved: parts and points, where what they become could be told, and where it couldn't.
func TestMoveErrors(t *testing.T) {
	for n := -33000; n <= 33000; n++ {
		want := api.OK
		if n < -32767 || n > 32767 {
			want = api.ErrArg
		}
		if e := checkMove(t, plainPart(0), n, 0); e != want {
			t.Fatalf("x %d: %d", n, e)
		}
		if e := checkMove(t, plainPart(0), 0, n); e != want {
			t.Fatalf("y %d: %d", n, e)
		}
		if e := checkMove(t, api.Part{DX: -32768}, n, 0); want == api.ErrArg && e != want {
			t.Fatalf("x %d, too far to the left: %d", n, e)
		}
		for _, f := range fields() {
			p := plainPart(0)
			*f.of(&p) = n
			fine := n >= -32768 && n <= 32767
			if e := checkMove(t, p, 1, 1); fine == (e == api.ErrArg) {
				t.Fatalf("%s %d: %d", f.name, n, e)
			}
		}
		if n >= -1100 && n <= 1100 {
			if e := checkMove(t, plainPart(n), 1, 1); (e == api.OK) != (n >= 0 && n < 1024) || e != api.OK && e != api.ErrArg {
				t.Fatalf("glyph %d: %d", n, e)
			}
		}
	}
	for _, n := range far {
		for _, p := range []api.Part{plainPart(0), {}} {
			if e := checkMove(t, p, n, 0); e != api.ErrArg {
				t.Errorf("x %d: %d", n, e)
			}
			if e := checkMove(t, p, 0, n); e != api.ErrArg {
				t.Errorf("y %d: %d", n, e)
			}
		}
		for _, f := range fields() {
			p := plainPart(0)
			*f.of(&p) = n
			if e := checkMove(t, p, 0, 0); e != api.ErrArg {
				t.Errorf("%s %d: %d", f.name, n, e)
			}
		}
		if e := checkMove(t, plainPart(n), 0, 0); e != api.ErrArg {
			t.Errorf("glyph %d: %d", n, e)
		}
	}
}

// anyNumber is one of two bytes, mostly, that is often at or about a bound.
func anyNumber(from *rand.Rand) int {
	switch from.Intn(8) {
	case 0:
		return 16384
	case 1:
		return 0
	case 2:
		return from.Intn(300) - 150
	case 3:
		return from.Intn(2)*65535 - 32768
	}
	return from.Intn(65536) - 32768
}

// anyGlyph is bytes of a glyph in which little is wrong.
func anyGlyph(from *rand.Rand) string {
	s := start
	n := 1 + from.Intn(5)
	if from.Intn(40) == 0 {
		n = 60 + from.Intn(10)
	}
	for i := range n {
		bits := 2 | from.Intn(2) | []int{0, 0, 8, 64, 128}[from.Intn(5)] | []int{0, 4, 256, 512, 1024, 4096}[from.Intn(6)]
		if i < n-1 {
			bits |= 32
		}
		if from.Intn(100) == 0 {
			bits ^= 1 << from.Intn(16)
		}
		s += short(bits, from.Intn(40))
		for range 2 * (1 + bits&1) {
			s += string([]byte{byte(from.Intn(256))})
		}
		for range bits>>3&1 + 2*(bits>>6&1) + 4*(bits>>7&1) {
			s += short(anyNumber(from))
		}
	}
	return s
}

// Any glyphs, of which most are fine or wrong at one place alone.
func TestReadAny(t *testing.T) {
	from := rand.New(rand.NewSource(14))
	seen := map[api.Errno]int{}
	for range 60000 {
		s := anyGlyph(from)
		switch from.Intn(8) {
		case 0:
			s = with(s, from.Intn(len(s)), string([]byte{byte(from.Intn(256))}))
		case 1:
			s = s[:from.Intn(len(s))]
		}
		seen[checkParse(t, s, 39+from.Intn(3))]++
	}
	for _, e := range []api.Errno{api.OK, api.ErrEnd, api.ErrForm, api.ErrLong} {
		if seen[e] < 100 {
			t.Errorf("%d is answered %d times", e, seen[e])
		}
	}
	for range 50000 {
		b := make([]byte, from.Intn(60))
		from.Read(b)
		for i := range b {
			if i > 9 && from.Intn(5) > 0 {
				b[i] = byte(from.Intn(2)) * 34
			}
		}
		checkParse(t, string(b), from.Intn(1026))
	}
}

// Any parts, of which most may be; what is made is parsed to itself, and what is parsed is made again.
func TestMadeAny(t *testing.T) {
	from := rand.New(rand.NewSource(15))
	seen := map[api.Errno]int{}
	for range 60000 {
		l := make([]api.Part, from.Intn(6))
		for i := range l {
			l[i] = api.Part{Glyph: from.Intn(1024), DX: anyNumber(from), DY: anyNumber(from), A: anyNumber(from), B: anyNumber(from), C: anyNumber(from), D: anyNumber(from)}
			if from.Intn(3) == 0 {
				l[i].B, l[i].C = 0, 0
			}
			if from.Intn(3) == 0 {
				l[i].D = l[i].A
			}
			switch from.Intn(100) {
			case 0:
				l[i].Glyph = 1024
			case 1:
				l[i].DX += 40000
			}
		}
		seen[checkMake(t, l)]++
		if got, want := comp.May(l, 900), may(l, 900); got != want {
			t.Fatalf("May(%v, 900) = %t", l, got)
		}
	}
	for _, e := range []api.Errno{api.OK, api.ErrArg} {
		if seen[e] < 1000 {
			t.Errorf("%d is answered %d times", e, seen[e])
		}
	}
}

// Any parts and points, of which most become what may be.
func TestMoveAny(t *testing.T) {
	from := rand.New(rand.NewSource(16))
	seen := map[api.Errno]int{}
	for range 200000 {
		p := api.Part{Glyph: from.Intn(1030), DX: anyNumber(from), DY: anyNumber(from), A: anyNumber(from), B: anyNumber(from), C: anyNumber(from), D: anyNumber(from)}
		if from.Intn(2) == 0 {
			p.DX, p.DY = p.DX/8, p.DY/8
		}
		seen[checkMove(t, p, anyNumber(from)/(1+from.Intn(9)), anyNumber(from)/(1+from.Intn(9)))]++
	}
	for _, e := range []api.Errno{api.OK, api.ErrArg, api.ErrOver} {
		if seen[e] < 1000 {
			t.Errorf("%d is answered %d times", e, seen[e])
		}
	}
}

// What is answered is the caller's own, and what is handed in is left as it is.
func TestOwn(t *testing.T) {
	l := []api.Part{{Glyph: 1, DX: 2, DY: 3, A: 4, B: 5, C: 6, D: 7}, plainPart(8), {Glyph: 9, DX: 1000, A: 10, D: 11}}
	in := slices.Clone(l)
	s, e := comp.Make(in)
	if e != api.OK || !comp.May(in, 10) || !slices.Equal(in, l) {
		t.Errorf("%v, %d", in, e)
	}
	in[0].DX = 100
	for range 2 {
		got, e := comp.Parse(s, 10)
		if !slices.Equal(got, l) || e != api.OK {
			t.Errorf("%v, %d", got, e)
		}
		for i := range got {
			got[i] = api.Part{}
		}
	}
}
