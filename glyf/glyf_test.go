package glyf_test

import (
	"fmt"
	"math"
	"math/rand"
	"slices"
	"strings"
	"testing"

	"pochoir/api"
	"pochoir/glyf"
)

// same tells whether two lists of contours are the same.
func same(a, b [][]api.Point) bool {
	return slices.EqualFunc(a, b, slices.Equal)
}

// brief is contours in a text that isn't too long.
func brief(l [][]api.Point) string {
	return fmt.Sprintf("%.300s", fmt.Sprint(l))
}

// checkParse holds Parse against the chapter's words.
func checkParse(t *testing.T, s string) api.Errno {
	t.Helper()
	want, f := parsed(s)
	got, e := glyf.Parse(s)
	if e != f || !same(got, want) {
		t.Fatalf("Parse(%.300q of %d bytes) = %s, %d; want %s, %d", s, len(s), brief(got), e, brief(want), f)
	}
	return e
}

// checkMake holds Make against the chapter's words; what is made is parsed to itself, whatever stands behind it, and not without its last byte.
func checkMake(t *testing.T, l [][]api.Point) api.Errno {
	t.Helper()
	want, f := made(l)
	got, e := glyf.Make(l)
	if got != want || e != f {
		t.Fatalf("Make(%s) = %.300q, %d; want %.300q, %d", brief(l), got, e, want, f)
	}
	if e != api.OK {
		return e
	}
	for _, more := range []string{"", "\x00", "more"} {
		if got == "" && more != "" {
			continue
		}
		if again, e := glyf.Parse(got + more); !same(again, l) || e != api.OK {
			t.Fatalf("Parse of what is made of %s, and %q = %s, %d", brief(l), more, brief(again), e)
		}
	}
	if got == "" {
		return e
	}
	if again, e := glyf.Parse(got[:len(got)-1]); len(again) != 0 || e != api.ErrEnd {
		t.Fatalf("Parse of what is made of %s, without the last byte = %s, %d", brief(l), brief(again), e)
	}
	return e
}

// checkMay holds May against the chapter's words; Make answers ErrArg just where it is false.
func checkMay(t *testing.T, l [][]api.Point) bool {
	t.Helper()
	want := may(l)
	if got := glyf.May(l); got != want {
		t.Fatalf("May(%s of %d) = %t; want %t", brief(l), len(l), got, want)
	}
	if e := checkMake(t, l); (e == api.ErrArg) == want {
		t.Fatalf("Make(%s of %d): %d, where May is %t", brief(l), len(l), e, want)
	}
	return want
}

// expect holds Parse against an error that is told in the test, and against the chapter's words.
func expect(t *testing.T, name, s string, want api.Errno) {
	t.Helper()
	if l, e := glyf.Parse(s); e != want || e != api.OK && len(l) != 0 {
		t.Errorf("%s: Parse(%.100q of %d bytes) = %s, %d; want %d", name, s, len(s), brief(l), e, want)
	}
	checkParse(t, s)
}

// glyph is bytes of contours whose last points are at these places; behind the commands is what stands in rest.
func glyph(places []int, commands, rest string) string {
	return short(len(places)) + "any bytes"[:8] + short(places...) + short(len(commands)) + commands + rest
}

// one is bytes of one contour of n points, without commands.
func one(n int, rest string) string {
	return glyph([]int{n - 1}, "", rest)
}

// with is s with other bytes at a place.
func with(s string, at int, bytes string) string {
	return s[:at] + bytes + s[at+len(bytes):]
}

// dots is n points at 0, 0.
func dots(n int) []api.Point {
	return make([]api.Point, n)
}

// bare is flags of n points that have no byte, as few as may be.
func bare(n int) string {
	out := ""
	for ; n > 0; n -= 256 {
		out += string([]byte{0x39, byte(min(n, 256) - 1)})
	}
	return out
}

// some is glyphs in which nothing is wrong.
func some() []string {
	return []string{
		"\x00\x00any bytes",
		one(1, "\x31"),
		one(3, "\x31\x21\x02"+"\x01\xf4\xfa"+"\x01\x2c"),
		one(4, "\x08\x01\x3f\x01"+"\x01\x00\xff\x00\x07\x09"+"\x00\x80\xff\x7f\xf0\x0f"),
		glyph([]int{0, 1, 4}, "commands", "\x06\x35\x01\x79\x01"+"\x01\xff\x00"+"\x02\xff\xff\x00"),
		glyph([]int{0, 255, 300}, "?", "\x01\x39\xfe\x39\x2c"+"\x7f\xff"+"\x80\x01"),
	}
}

func TestExample(t *testing.T) {
	l := [][]api.Point{{{X: 0, Y: 0, On: true}}}
	want := "\x00\x01" + "\x00\x00\x00\x00\x00\x00\x00\x00" + "\x00\x00" + "\x00\x00" + "\x31"
	if s, e := glyf.Make(l); s != want || e != api.OK {
		t.Errorf("%q, %d", s, e)
	}
	if got, e := glyf.Parse(want); !same(got, l) || e != api.OK {
		t.Errorf("%v, %d", got, e)
	}
}

// The bytes of glyphs, written out, as they are made.
func TestBytes(t *testing.T) {
	for _, c := range []struct {
		l [][]api.Point
		s string
	}{
		{nil, ""},
		{[][]api.Point{{{X: 0, Y: 0}}},
			"\x00\x01" + "\x00\x00\x00\x00\x00\x00\x00\x00" + "\x00\x00" + "\x00\x00" + "\x30"},
		{[][]api.Point{{{X: 0, Y: 0, On: true}, {X: 500, Y: 0, On: true}, {X: 250, Y: 300}}},
			"\x00\x01" + "\x00\x00\x00\x00\x01\xf4\x01\x2c" + "\x00\x02" + "\x00\x00" + "\x31\x21\x02" + "\x01\xf4\xfa" + "\x01\x2c"},
		{[][]api.Point{{{X: -1, Y: -2}}, {{X: -1, Y: 253, On: true}, {X: -257, Y: -3, On: true}}},
			"\x00\x02" + "\xfe\xff\xff\xfd\xff\xff\x00\xfd" + "\x00\x00\x00\x02" + "\x00\x00" + "\x06\x35\x01" + "\x01\xff\x00" + "\x02\xff\xff\x00"},
		{[][]api.Point{{{X: 32767, Y: -32767, On: true}}, {{X: -1, Y: 0, On: true}}},
			"\x00\x02" + "\xff\xff\x80\x01\x7f\xff\x00\x00" + "\x00\x00\x00\x01" + "\x00\x00" + "\x01\x01" + "\x7f\xff\x80\x00" + "\x80\x01\x7f\xff"},
		{[][]api.Point{{{X: 255, Y: -255}, {X: 511, Y: -511}, {X: 256, Y: -256}, {X: 0, Y: 0}}},
			"\x00\x01" + "\x00\x00\xfe\x01\x01\xff\x00\x00" + "\x00\x03" + "\x00\x00" + "\x16\x00\x26\x00" + "\xff\x01\x00\xff\xff\x00" + "\xff\xff\x00\xff\x01\x00"},
		{[][]api.Point{{{X: 7, Y: 8, On: true}, {X: 7, Y: 8, On: true}}, {{X: 7, Y: 8}}},
			"\x00\x02" + "\x00\x07\x00\x08\x00\x07\x00\x08" + "\x00\x01\x00\x02" + "\x00\x00" + "\x37\x31\x30" + "\x07" + "\x08"},
	} {
		if s, e := glyf.Make(c.l); s != c.s || e != api.OK {
			t.Errorf("Make(%v) = %q, %d; want %q", c.l, s, e, c.s)
		}
		if l, e := glyf.Parse(c.s); !same(l, c.l) || e != api.OK {
			t.Errorf("Parse(%q) = %v, %d; want %v", c.s, l, e, c.l)
		}
		checkMake(t, c.l)
	}
}

// The bytes of glyphs as they aren't made, written out.
func TestParsedBytes(t *testing.T) {
	for _, c := range []struct {
		name, s string
		l       [][]api.Point
	}{
		{"commands, bit 6, a flag for further points, also of the next contour", "\x00\x02any byte\x00\x01\x00\x03\x00\x03xyz\x79\x02\x00" + "\xff\xff" + "\x00\x00",
			[][]api.Point{{{On: true}, {On: true}}, {{On: true}, {X: -1}}}},
		{"a flag for no further point", "\x00\x01any byte\x00\x01\x00\x00\x38\x00\x71",
			[][]api.Point{{{}, {On: true}}}},
		{"0 in a byte, with either sign, and in two", "\x00\x01any byte\x00\x02\x00\x00\x07\x37\x01" + "\x00\x00\x00\x00" + "\x00\x00\x00\x00",
			[][]api.Point{{{On: true}, {On: true}, {On: true}}}},
		{"near ones in two bytes", "\x00\x01any byte\x00\x01\x00\x00\x00\x00" + "\x00\x05\xff\xfe" + "\xff\xff\x00\x02",
			[][]api.Point{{{X: 5, Y: -1}, {X: 3, Y: 1}}}},
		{"each with bytes, by one flag", "\x00\x01any byte\x00\x02\x00\x00\x1b\x02" + "\xff\x01\x10" + "\x01\x00\xff\x00\x80\x01",
			[][]api.Point{{{X: 255, Y: 256, On: true}, {X: 256, On: true}, {X: 272, Y: -32767, On: true}}}},
	} {
		for _, more := range []string{"", "\x00", "more"} {
			if l, e := glyf.Parse(c.s + more); !same(l, c.l) || e != api.OK {
				t.Errorf("%s: %v, %d; want %v", c.name, l, e, c.l)
			}
			checkParse(t, c.s+more)
		}
	}
}

// Glyphs without contours.
func TestNone(t *testing.T) {
	for _, s := range []string{"", "\x00\x00\x00\x00\x00\x00\x00\x00\x00\x00", "\x00\x00any bytes", "\x00\x00\xff\xff\xff\xff\xff\xff\xff\xff\xff", "\x00\x00" + strings.Repeat("\x80", 5000)} {
		if l, e := glyf.Parse(s); len(l) != 0 || e != api.OK {
			t.Errorf("Parse(%.30q) = %v, %d", s, l, e)
		}
	}
	for _, l := range [][][]api.Point{nil, {}, make([][]api.Point, 0, 9)} {
		if s, e := glyf.Make(l); s != "" || e != api.OK || !glyf.May(l) {
			t.Errorf("Make(%v) = %q, %d", l, s, e)
		}
	}
}

// Which error is answered, of one fault and of several.
func TestErrors(t *testing.T) {
	fine := glyph([]int{0, 2}, "abc", "\x01\x09\x01"+"\x00\x01\x00\x02\x00\x03"+"\x00\x04\x00\x05\x00\x06")
	for _, c := range []struct {
		name, s string
		e       api.Errno
	}{
		{"fine", fine, api.OK},
		{"a byte", "\x00", api.ErrEnd},
		{"nine bytes", fine[:9], api.ErrEnd},
		{"nine bytes, of no contour", "\x00\x00any byt", api.ErrEnd},
		{"nine bytes, of parts", "\xff\xffany byt", api.ErrEnd},
		{"nine bytes, of too many contours", "\x7f\xffany byt", api.ErrEnd},
		{"parts", with(fine, 0, "\xff\xff"), api.ErrForm},
		{"parts, of the lowest number", with(fine, 0, "\x80\x00"), api.ErrForm},
		{"parts, and no byte more", "\xff\xffany byte", api.ErrForm},
		{"257 contours", with(fine, 0, "\x01\x01"), api.ErrLong},
		{"257 contours, and no byte more", "\x01\x01any byte", api.ErrLong},
		{"the most contours", with(fine, 0, "\x7f\xff"), api.ErrLong},
		{"256 contours, and no byte more", "\x01\x00any byte", api.ErrEnd},
		{"no place", fine[:10], api.ErrEnd},
		{"a place and a half", fine[:13], api.ErrEnd},
		{"a place and a half, that don't rise", with(fine, 10, "\x05\x00\x00")[:13], api.ErrEnd},
		{"three places, of which two don't rise and one isn't there", "\x00\x03any byte\x00\x05\x00\x05", api.ErrEnd},
		{"two places that are there, of three, too many points", "\x00\x03any byte\xff\xfe\xff\xff", api.ErrEnd},
		{"a place that is the one ahead", with(fine, 10, "\x00\x02"), api.ErrForm},
		{"a place that is below the one ahead", with(fine, 10, "\x00\x03"), api.ErrForm},
		{"a place that is the one ahead, 0", with(fine, 12, "\x00\x00"), api.ErrForm},
		{"places that don't rise, and too many points", "\x00\x03any byte\x20\x00\x20\x00\xff\xff", api.ErrForm},
		{"too many points, then places that don't rise", "\x00\x03any byte\x20\x00\xff\xff\x00\x00", api.ErrForm},
		{"places that don't rise, and no commands", with(fine, 10, "\x00\x02")[:14], api.ErrForm},
		{"4097 points", with(fine, 12, "\x10\x00"), api.ErrLong},
		{"4097 points, and no commands", with(fine, 12, "\x10\x00")[:14], api.ErrLong},
		{"4096 points, and no commands", with(fine, 12, "\x0f\xff")[:14], api.ErrEnd},
		{"the most points", with(fine, 12, "\xff\xff"), api.ErrLong},
		{"4097 points of one contour", one(4097, "\x31"), api.ErrLong},
		{"no commands", fine[:14], api.ErrEnd},
		{"half a number of commands", fine[:15], api.ErrEnd},
		{"commands that aren't there", fine[:16], api.ErrEnd},
		{"commands that aren't all there", fine[:18], api.ErrEnd},
		{"the most commands", with(fine, 14, "\xff\xff"), api.ErrEnd},
		{"the most commands, all there but one byte", with(fine[:16], 14, "\xff\xff") + strings.Repeat("\x80", 65534), api.ErrEnd},
		{"the most commands, all there", with(fine[:16], 14, "\xff\xff") + strings.Repeat("\x80", 65535) + fine[19:], api.OK},
		{"no flag", fine[:19], api.ErrEnd},
		{"the second flag isn't there", fine[:20], api.ErrEnd},
		{"the byte behind a flag isn't there", fine[:21], api.ErrEnd},
		{"bit 7", with(fine, 19, "\x81"), api.ErrForm},
		{"bit 7, and nothing behind it", one(1, "\x80"), api.ErrForm},
		{"bit 7, and no byte behind it that says for how many", one(2, "\x88"), api.ErrForm},
		{"bit 7 of the second flag, where the first one has its byte", one(3, "\x39\x00\xb9"), api.ErrForm},
		{"bit 7 behind a flag that stands for too many", one(2, "\x39\x02\x80"), api.ErrForm},
		{"the byte behind a flag isn't there, of one point", one(1, "\x39"), api.ErrEnd},
		{"one point too many", with(fine, 21, "\x02"), api.ErrForm},
		{"255 points too many", with(fine, 21, "\xff"), api.ErrForm},
		{"one point too many, and no x", one(1, "\x09\x01"), api.ErrForm},
		{"one point too few", one(3, "\x39\x01"), api.ErrEnd},
		{"no x", fine[:22], api.ErrEnd},
		{"half an x", fine[:23], api.ErrEnd},
		{"the last x", fine[:27], api.ErrEnd},
		{"no y", fine[:28], api.ErrEnd},
		{"the last y", fine[:33], api.ErrEnd},
		{"no x of one byte", one(1, "\x22"), api.ErrEnd},
		{"no y of one byte", one(1, "\x14"), api.ErrEnd},
		{"half an x of two", one(1, "\x20\x00"), api.ErrEnd},
		{"half a y of two", one(1, "\x10\x00"), api.ErrEnd},
		{"x -32768", one(1, "\x20\x80\x00"), api.ErrOver},
		{"y -32768", one(1, "\x10\x80\x00"), api.ErrOver},
		{"x -32768, and no y", one(1, "\x00\x80\x00"), api.ErrOver},
		{"x -32768, and half a second one", one(2, "\x20\x20\x80\x00\x00"), api.ErrOver},
		{"y -32768, and no second one", one(2, "\x10\x10\x80\x00"), api.ErrOver},
		{"half a second x", one(2, "\x00\x00\x00\x01\x80"), api.ErrEnd},
		{"x 32768 of the second point, and no y", one(2, "\x00\x00\x00\x01\x7f\xff"), api.ErrOver},
		{"y -32768, and the second x", one(2, "\x00\x00\x00\x01\x80\x00\x80\x00\x80\x00"), api.ErrOver},
		{"x one too great, then back", one(3, "\x21\x33\x23\x7f\xff\x01\x01"), api.ErrOver},
		{"y one too small, then back", one(3, "\x11\x15\x35\x80\x01\x01\x01"), api.ErrOver},
	} {
		expect(t, c.name, c.s, c.e)
	}
}

// All that the number of contours can say, with no byte behind the first ten, and with many.
func TestContours(t *testing.T) {
	for n := range 65536 {
		want, more := api.ErrEnd, api.ErrForm
		switch {
		case n == 0:
			want, more = api.OK, api.OK
		case n == 1:
			// The one place is 0, and there are no commands; the one flag says that x and y have two bytes.
			more = api.OK
		case n >= 32768:
			want, more = api.ErrForm, api.ErrForm
		case n > 256:
			want, more = api.ErrLong, api.ErrLong
		}
		s := short(n) + "any byte"
		expect(t, "ten bytes", s, want)
		expect(t, "many bytes", s+strings.Repeat("\x00", 600), more)
		if n >= 1 && n <= 256 {
			places := make([]int, n)
			for i := range places {
				places[i] = 2 * i
			}
			expect(t, "all places", glyph(places, "", bare(2*n-1)), api.OK)
			places[n-1] = max(places[n-1]-2, 0)
			if n > 1 {
				expect(t, "the last place is the one ahead", glyph(places, "", bare(2*n-1)), api.ErrForm)
			}
		}
	}
}

// All that the place of a last point can say: of the only contour, of the first of two, and of the last of two.
func TestPlaces(t *testing.T) {
	sizes := func(s string, want api.Errno, all ...int) {
		l, e := glyf.Parse(s)
		if e != want || e != api.OK && len(l) != 0 {
			t.Fatalf("Parse(%.50q) = %s, %d; want %d", s, brief(l), e, want)
		}
		var got []int
		for _, c := range l {
			got = append(got, len(c))
		}
		if e == api.OK && !slices.Equal(got, all) {
			t.Fatalf("Parse(%.50q): %v points; want %v", s, got, all)
		}
	}
	for n := range 65536 {
		only, ahead, behind := api.OK, api.OK, api.OK
		if n >= 4096 {
			only, behind = api.ErrLong, api.ErrLong
		}
		if n >= 900 {
			ahead = api.ErrForm
		}
		if n <= 900 {
			behind = api.ErrForm
		}
		points := bare(min(n, 4096) + 1)
		sizes(one(n+1, points), only, n+1)
		sizes(glyph([]int{n, 900}, "", bare(901)), ahead, n+1, 900-n)
		sizes(glyph([]int{900, n}, "", points), behind, 901, n-900)
	}
}

// The number of commands, and what they are, counts for nothing.
func TestCommands(t *testing.T) {
	want := [][]api.Point{{{X: 258, Y: -1, On: true}}}
	for _, n := range []int{0, 1, 2, 255, 256, 257, 32767, 32768, 65535} {
		for _, fill := range []string{"\x00", "\xff", "\x31"} {
			commands := strings.Repeat(fill, n)
			s := glyph([]int{0}, commands, "\x05"+"\x01\x02"+"\x01")
			if l, e := glyf.Parse(s); !same(l, want) || e != api.OK {
				t.Errorf("%d commands: %v, %d", n, l, e)
			}
			if n > 0 {
				expect(t, "commands that aren't all there", s[:13+n], api.ErrEnd)
			}
		}
	}
}

// Each flag, of each of three points, with so many bytes behind it.
func TestFlags(t *testing.T) {
	numbers := "\x01\x02\x03\x04\x05\x06\x07\x08\x09\x0a\x0b\x0c\x0d"
	for f := range 256 {
		for at := range 3 {
			flags := with("\x31\x31\x31", at, string([]byte{byte(f)}))
			for n := range len(numbers) + 1 {
				checkParse(t, one(3, flags+numbers[:n]))
				if f&8 != 0 {
					checkParse(t, one(3, flags[:at+1]+"\x00"+flags[at+1:]+numbers[:n]))
				}
			}
		}
		// What a flag says, bit by bit, of a point at 5, 6 ahead of which no point is.
		if f >= 128 {
			expect(t, "bit 7", one(1, string([]byte{byte(f), 0})+numbers), api.ErrForm)
			continue
		}
		rest, want := string([]byte{byte(f)}), api.Point{On: f&1 != 0}
		if f&8 != 0 {
			rest += "\x00"
		}
		for _, axis := range []struct {
			short, other, value int
			to                  *int
		}{{2, 16, 5, &want.X}, {4, 32, 6, &want.Y}} {
			switch {
			case f&axis.short != 0 && f&axis.other != 0:
				rest += string([]byte{byte(axis.value)})
				*axis.to = axis.value
			case f&axis.short != 0:
				rest += string([]byte{byte(axis.value)})
				*axis.to = -axis.value
			case f&axis.other == 0:
				rest += string([]byte{byte(axis.value), byte(axis.value)})
				*axis.to = 257 * axis.value
			}
		}
		if l, e := glyf.Parse(one(1, rest)); !same(l, [][]api.Point{{want}}) || e != api.OK {
			t.Errorf("flag %d: %v, %d; want %v", f, l, e, want)
		}
	}
}

// For how many further points a flag may stand, at and about where they end.
func TestFurther(t *testing.T) {
	for _, n := range []int{1, 2, 3, 100, 255, 256, 257, 300, 511, 512, 513} {
		for ahead := range min(n, 4) {
			for times := range 256 {
				flags := strings.Repeat("\x31", ahead) + string([]byte{0x38, byte(times)})
				end := ahead + 1 + times
				if end > n {
					expect(t, "too many", one(n, flags), api.ErrForm)
					continue
				}
				s := one(n, flags+strings.Repeat("\x31", n-end))
				l, e := glyf.Parse(s)
				if e != api.OK || len(l) != 1 || len(l[0]) != n {
					t.Fatalf("%d of %d: %s, %d", times, n, brief(l), e)
				}
				for i, p := range l[0] {
					if on := i < ahead || i >= end; p != (api.Point{On: on}) {
						t.Fatalf("%d of %d: point %d is %v", times, n, i, p)
					}
				}
				if end < n {
					expect(t, "a flag less", s[:len(s)-1], api.ErrEnd)
				}
			}
		}
	}
}

// All that two bytes can say of an x and of a y, behind points at several places.
func TestUnits(t *testing.T) {
	for _, ahead := range []int{0, 1, -1, 32767, -32767, 20000, -20000} {
		for n := range 65536 {
			value, want := ahead+int(int16(n)), api.OK
			if value > 32767 || value < -32767 {
				want = api.ErrOver
			}
			x, y := one(2, "\x21\x20"+short(ahead, n)), one(2, "\x10\x11"+short(ahead, n))
			for i, s := range []string{x, y} {
				p, q := api.Point{X: ahead, On: true}, api.Point{X: value}
				if i == 1 {
					p, q = api.Point{Y: ahead}, api.Point{Y: value, On: true}
				}
				l, e := glyf.Parse(s)
				if e != want || e == api.OK && !same(l, [][]api.Point{{p, q}}) || e != api.OK && len(l) != 0 {
					t.Fatalf("Parse(%q) = %v, %d; want %v, %v, %d", s, l, e, p, q, want)
				}
			}
		}
	}
}

// All that one byte can say of an x and of a y, at and about the greatest, either way.
func TestNear(t *testing.T) {
	for _, ahead := range []int{0, 32767, 32766, 32512, 32511, -32767, -32766, -32512, -32511} {
		for n := range 256 {
			for _, sign := range []int{1, -1} {
				value, want := ahead+sign*n, api.OK
				if value > 32767 || value < -32767 {
					want = api.ErrOver
				}
				fx, fy := "\x22", "\x14"
				if sign > 0 {
					fx, fy = "\x32", "\x34"
				}
				rest := short(ahead) + string([]byte{byte(n)})
				for i, s := range []string{one(2, "\x20"+fx+rest), one(2, "\x10"+fy+rest)} {
					points := []api.Point{{X: ahead}, {X: value}}
					if i == 1 {
						points = []api.Point{{Y: ahead}, {Y: value}}
					}
					l, e := glyf.Parse(s)
					if e != want || e == api.OK && !same(l, [][]api.Point{points}) {
						t.Fatalf("Parse(%q) = %v, %d; want %v, %d", s, l, e, points, want)
					}
				}
			}
		}
	}
}

// Each beginning of some glyphs, and each byte of them turned into each other one.
func TestEachByte(t *testing.T) {
	for _, s := range some() {
		if e := checkParse(t, s); e != api.OK {
			t.Errorf("%q: %d", s, e)
		}
		for n := range s {
			e := checkParse(t, s[:n])
			// Behind the ten bytes of no contour nothing counts.
			if n > 0 && (n < 10 || s[:2] != "\x00\x00") && e != api.ErrEnd {
				t.Errorf("the first %d bytes of %.50q: %d", n, s, e)
			}
			for c := range 256 {
				checkParse(t, with(s, n, string([]byte{byte(c)})))
			}
		}
		for n := 2; n < min(len(s), 10); n++ {
			for c := range 256 {
				got, e := glyf.Parse(with(s, n, string([]byte{byte(c)})))
				if want, _ := glyf.Parse(s); !same(got, want) || e != api.OK {
					t.Errorf("%.50q with %d at %d: %v, %d", s, c, n, got, e)
				}
			}
		}
	}
}

// What may be, and what not, at the limits.
func TestMay(t *testing.T) {
	contours := func(n, size int) [][]api.Point {
		var out [][]api.Point
		for range n {
			out = append(out, dots(size))
		}
		return out
	}
	point := func(x, y int) [][]api.Point {
		return [][]api.Point{dots(3), {{}, {X: x, Y: y}, {}}, dots(1)}
	}
	for _, c := range []struct {
		name string
		l    [][]api.Point
		may  bool
	}{
		{"none", nil, true},
		{"one point", contours(1, 1), true},
		{"a contour without points", [][]api.Point{{}}, false},
		{"a contour without points, nil", [][]api.Point{nil}, false},
		{"the first one without points", [][]api.Point{nil, dots(1)}, false},
		{"the last one without points", [][]api.Point{dots(1), dots(2), {}}, false},
		{"one between without points", [][]api.Point{dots(1), {}, dots(2)}, false},
		{"256 contours", contours(256, 1), true},
		{"257 contours", contours(257, 1), false},
		{"300 contours", contours(300, 16), false},
		{"257 contours without points", contours(257, 0), false},
		{"255 contours, and one without points", append(contours(255, 1), nil), false},
		{"256 contours, and one without points", append(contours(256, 1), nil), false},
		{"4096 points", contours(1, 4096), true},
		{"4097 points", contours(1, 4097), false},
		{"9000 points", contours(1, 9000), false},
		{"4096 points in 256 contours", contours(256, 16), true},
		{"4096 points in 255 contours, and one more", append(contours(255, 16), dots(17)), false},
		{"4096 points, and one more", append(contours(2, 2048), dots(1)), false},
		{"4096 points, and a contour without points", append(contours(2, 2048), nil), false},
		{"x 32767", point(32767, 0), true},
		{"x 32768", point(32768, 0), false},
		{"x -32767", point(-32767, 0), true},
		{"x -32768", point(-32768, 0), false},
		{"y 32767", point(0, 32767), true},
		{"y 32768", point(0, 32768), false},
		{"y -32767", point(0, -32767), true},
		{"y -32768", point(0, -32768), false},
		{"both at the edge", point(-32767, 32767), true},
		{"the greatest x", point(math.MaxInt, 0), false},
		{"the least x", point(math.MinInt, 0), false},
		{"the greatest y", point(0, math.MaxInt), false},
		{"the least y", point(0, math.MinInt), false},
		{"x that goes round in 32 bits", point(1<<32, 0), false},
		{"y that goes round in 16 bits", point(0, 1<<16), false},
	} {
		if got := checkMay(t, c.l); got != c.may {
			t.Errorf("%s: %t", c.name, got)
		}
	}
	for n := -33000; n <= 33000; n++ {
		want := n >= -32767 && n <= 32767
		if glyf.May(point(n, 0)) != want || glyf.May(point(0, n)) != want {
			t.Errorf("%d: %t, %t", n, glyf.May(point(n, 0)), glyf.May(point(0, n)))
		}
	}
}

// Each distance of an x, and of a y, from the one ahead, of points in one contour and in two.
func TestDistances(t *testing.T) {
	for d := -65534; d <= 65534; d++ {
		want := api.OK
		if d < -32768 || d > 32767 {
			want = api.ErrOver
		}
		// From as near the middle as it may be.
		from := -d / 2
		p, q := api.Point{X: from, Y: 3, On: true}, api.Point{X: from + d, Y: 3}
		turned := func(p api.Point) api.Point { return api.Point{X: p.Y, Y: p.X, On: p.On} }
		for _, l := range [][][]api.Point{{{p, q}}, {{p}, {q}}, {{turned(p), turned(q)}}, {{turned(p)}, {turned(q)}}} {
			if e := checkMake(t, l); e != want {
				t.Fatalf("Make(%v): %d; want %d", l, e, want)
			}
		}
		if d >= -32767 && d <= 32767 {
			if e := checkMake(t, [][]api.Point{{{X: d, Y: -d}}}); e != api.OK {
				t.Fatalf("Make of a point at %d, %d: %d", d, -d, e)
			}
		}
	}
}

// Which error Make answers, of several.
func TestMakeErrors(t *testing.T) {
	far := []api.Point{{X: -32767}, {X: 32767}}
	for _, c := range []struct {
		name string
		l    [][]api.Point
		e    api.Errno
	}{
		{"too far", [][]api.Point{far}, api.ErrOver},
		{"too far in the last contour", [][]api.Point{dots(5), dots(5), far}, api.ErrOver},
		{"too far from the last point of the contour ahead", [][]api.Point{far[:1], far[1:]}, api.ErrOver},
		{"too far downwards", [][]api.Point{{{Y: 20000}, {Y: -12769}}}, api.ErrOver},
		{"as far downwards as may be", [][]api.Point{{{Y: 20000}, {Y: -12768}}}, api.OK},
		{"too far upwards", [][]api.Point{{{Y: -20000}, {Y: 12768}}}, api.ErrOver},
		{"as far upwards as may be", [][]api.Point{{{Y: -20000}, {Y: 12767}}}, api.OK},
		{"too far to the left", [][]api.Point{{{X: 1}, {X: -32767}, {X: -32767}, {X: 1}, {X: 2}, {X: -32767}}}, api.ErrOver},
		{"as far to the left as may be", [][]api.Point{{{X: 1}, {X: -32767}, {X: -32767}, {X: 0}}}, api.OK},
		{"too far, then an x that may not be", [][]api.Point{far, {{X: 32768}}}, api.ErrArg},
		{"too far, then a contour without points", [][]api.Point{far, nil}, api.ErrArg},
		{"too far, then too many points", [][]api.Point{far, dots(4095)}, api.ErrArg},
		{"an x that may not be, too far", [][]api.Point{{{X: math.MinInt}, {X: math.MaxInt}}}, api.ErrArg},
	} {
		if s, e := glyf.Make(c.l); e != c.e || e != api.OK && s != "" {
			t.Errorf("%s: %q, %d; want %d", c.name, s, e, c.e)
		}
		checkMake(t, c.l)
	}
}

// The least and the greatest are of all points, on and off the outline.
func TestBox(t *testing.T) {
	points := []api.Point{{X: 3, Y: -4, On: true}, {X: -5, Y: 6}, {X: 700, Y: 8, On: true}, {X: 9, Y: -1000}, {X: 1, Y: 12000, On: true}, {X: -8000, Y: 2}}
	want := short(-8000, -1000, 700, 12000)
	for i := range points {
		turned := slices.Concat(points[i:], points[:i])
		for _, l := range [][][]api.Point{{turned}, {turned[:2], turned[2:]}, {turned[:1], turned[1:5], turned[5:]}} {
			if s, e := glyf.Make(l); e != api.OK || s[2:10] != want {
				t.Errorf("Make(%v) = %q, %d", l, s, e)
			}
			checkMake(t, l)
		}
	}
	// None of them is 0 unless a point's is.
	for _, p := range []api.Point{{X: 5, Y: 6}, {X: -5, Y: -6}, {X: 32767, Y: -32767}, {X: -32767, Y: 32767}} {
		if s, e := glyf.Make([][]api.Point{{p}}); e != api.OK || s[2:10] != short(p.X, p.Y, p.X, p.Y) {
			t.Errorf("Make of %v = %q, %d", p, s, e)
		}
	}
}

// The most contours and points, each of them somewhere else.
func TestMost(t *testing.T) {
	from := rand.New(rand.NewSource(1))
	for _, size := range []int{16, 4096} {
		var l [][]api.Point
		for range 4096 / size {
			c := dots(size)
			for i := range c {
				c[i] = api.Point{X: from.Intn(32768) - 16384, Y: from.Intn(32768) - 16384, On: from.Intn(2) == 0}
			}
			l = append(l, c)
		}
		if e := checkMake(t, l); e != api.OK {
			t.Error(e)
		}
	}
	for _, n := range []int{256, 257} {
		places := make([]int, n)
		for i := range places {
			places[i] = 16*i + 15
		}
		want := api.OK
		if n > 256 {
			want = api.ErrLong
		}
		expect(t, "many contours", glyph(places, "", bare(16*n)), want)
	}
	for _, n := range []int{4095, 4096} {
		expect(t, "many points", one(n, bare(n)), api.OK)
		expect(t, "many points, by a flag each", one(n, strings.Repeat("\x31", n)), api.OK)
		expect(t, "many points, a flag too few", one(n, strings.Repeat("\x31", n-1)), api.ErrEnd)
	}
}

// anyGlyph is bytes of a glyph in which little is wrong.
func anyGlyph(from *rand.Rand) string {
	var places []int
	last := -1
	for range 1 + from.Intn(5) {
		last += 1 + from.Intn(6) - from.Intn(60)/59
		places = append(places, last)
	}
	flags, numbers := "", ""
	for n := last + 1; n > 0; n-- {
		f := byte(from.Intn(128)) &^ 8
		flags += string([]byte{f})
		times := 1
		if n > 1 && from.Intn(4) == 0 {
			times = 1 + from.Intn(n) + from.Intn(40)/39
			flags = flags[:len(flags)-1] + string([]byte{f | 8, byte(times - 1)})
		}
		n -= times - 1
		for range times {
			for range 1 + from.Intn(4) {
				numbers += string([]byte{byte(from.Intn(256))})
			}
		}
	}
	if flags != "" && from.Intn(50) == 0 {
		flags = with(flags, from.Intn(len(flags)), "\x80")
	}
	return glyph(places, strings.Repeat("c", from.Intn(4)), flags+numbers+"  ")
}

// Any glyphs, of which most are fine or wrong at one place alone.
func TestReadAny(t *testing.T) {
	from := rand.New(rand.NewSource(13))
	seen := map[api.Errno]int{}
	for range 100000 {
		s := anyGlyph(from)
		switch from.Intn(8) {
		case 0:
			s = with(s, from.Intn(len(s)), string([]byte{byte(from.Intn(256))}))
		case 1:
			s = s[:from.Intn(len(s))]
		}
		seen[checkParse(t, s)]++
	}
	for _, e := range []api.Errno{api.OK, api.ErrEnd, api.ErrForm, api.ErrLong, api.ErrOver} {
		if seen[e] < 100 {
			t.Errorf("%d is answered %d times", e, seen[e])
		}
	}
	for range 50000 {
		b := make([]byte, from.Intn(60))
		from.Read(b)
		for i := range b {
			if i < 16 && from.Intn(5) > 0 {
				b[i] = byte(from.Intn(2)) * byte(from.Intn(6))
			}
		}
		checkParse(t, string(b))
	}
}

// Any contours, of which most may be; what is made is parsed to itself.
func TestMadeAny(t *testing.T) {
	from := rand.New(rand.NewSource(14))
	seen := map[api.Errno]int{}
	unit := func(ahead int) int {
		switch from.Intn(8) {
		case 0:
			return ahead
		case 1:
			return from.Intn(65535) - 32767 + from.Intn(90)/89*from.Intn(200)
		case 2:
			return from.Intn(2000) - 1000
		}
		return max(-32767, min(32767, ahead+from.Intn(600)-300))
	}
	for range 40000 {
		var l [][]api.Point
		var p api.Point
		for range from.Intn(6) {
			c := dots(1 + from.Intn(9))
			if from.Intn(60) == 0 {
				c = nil
			}
			for i := range c {
				p = api.Point{X: unit(p.X), Y: unit(p.Y), On: from.Intn(2) == 0}
				c[i] = p
			}
			l = append(l, c)
		}
		checkMay(t, l)
		seen[checkMake(t, l)]++
	}
	for _, e := range []api.Errno{api.OK, api.ErrArg, api.ErrOver} {
		if seen[e] < 1000 {
			t.Errorf("%d is answered %d times", e, seen[e])
		}
	}
}

// What is answered is the caller's own, no two contours share memory, and what is handed in is left as it is.
func TestOwn(t *testing.T) {
	l := [][]api.Point{{{X: 1, Y: 2, On: true}, {X: 3, Y: 4}}, {{X: 5, Y: 6}}, {{X: 7, Y: 8}, {X: 9, Y: 300, On: true}}}
	in := [][]api.Point{slices.Clone(l[0]), slices.Clone(l[1]), slices.Clone(l[2])}
	s, e := glyf.Make(in)
	if e != api.OK || !glyf.May(in) || !same(in, l) {
		t.Errorf("%v, %d", in, e)
	}
	in[0][0].X = 100
	for range 2 {
		got, e := glyf.Parse(s)
		if !same(got, l) || e != api.OK {
			t.Errorf("%v, %d", got, e)
		}
		for i := range got {
			longer := append(got[i], api.Point{X: -1}, api.Point{X: -2})
			longer[0].Y = -3
		}
		for i := range got {
			if !slices.Equal(got[i][1:], l[i][1:]) || i > 0 && got[i][0].X != l[i][0].X {
				t.Errorf("contour %d is %v once others are longer", i, got[i])
			}
		}
	}
}
