package metric_test

import (
	"math"
	"math/rand"
	"slices"
	"strings"
	"testing"

	"pochoir/api"
	"pochoir/metric"
)

// plain is a head of so many glyphs and metrics, in which nothing is wrong.
func plain(glyphs, metrics int, long bool) api.Head {
	return api.Head{Em: 1000, Long: long, Glyphs: glyphs, Metrics: metrics, Ascent: 800, Descent: -200, Gap: 90}
}

// wrong is heads that may not be, each for one reason, and with room for the tables of three glyphs and two metrics.
func wrong() []api.Head {
	var out []api.Head
	add := func(change func(h *api.Head)) {
		h := plain(3, 2, false)
		change(&h)
		out = append(out, h)
		h.Long = true
		out = append(out, h)
	}
	for _, n := range []int{-1, 0, 15, 16385, 1<<16 + 16, math.MaxInt, math.MinInt} {
		add(func(h *api.Head) { h.Em = n })
	}
	for _, n := range []int{-3, 0, 1, 1025, 1<<16 + 3, math.MaxInt, math.MinInt} {
		add(func(h *api.Head) { h.Glyphs = n })
	}
	for _, n := range []int{-1, 0, 4, 1<<16 + 2, math.MaxInt, math.MinInt} {
		add(func(h *api.Head) { h.Metrics = n })
	}
	for _, n := range []int{-32769, 32768, math.MaxInt, math.MinInt} {
		add(func(h *api.Head) { h.Ascent = n })
		add(func(h *api.Head) { h.Descent = n })
		add(func(h *api.Head) { h.Gap = n })
	}
	return append(out, api.Head{}, api.Head{Em: -1, Glyphs: -1, Metrics: -1})
}

func checkWidths(t *testing.T, h api.Head, s string) api.Errno {
	t.Helper()
	want, f := widths(h, s)
	got, e := metric.Widths(h, s)
	if !slices.Equal(got, want) || e != f {
		t.Fatalf("Widths(%+v, %.200q of %d bytes) = %.20v, %d; want %.20v, %d", h, s, len(s), got, e, want, f)
	}
	return e
}

func checkPlaces(t *testing.T, h api.Head, s string, size int) api.Errno {
	t.Helper()
	want, f := places(h, s, size)
	got, e := metric.Places(h, s, size)
	if !slices.Equal(got, want) || e != f {
		t.Fatalf("Places(%+v, %.200q of %d bytes, %d) = %.20v, %d; want %.20v, %d", h, s, len(s), size, got, e, want, f)
	}
	return e
}

// checkHmtx holds Hmtx against the chapter's words; what is made is read again.
func checkHmtx(t *testing.T, h api.Head, l []int) api.Errno {
	t.Helper()
	want, f := hmtx(h, l)
	got, e := metric.Hmtx(h, l)
	if got != want || e != f {
		t.Fatalf("Hmtx(%+v, %.20v of %d) = %.200q, %d; want %.200q, %d", h, l, len(l), got, e, want, f)
	}
	if e != api.OK {
		return e
	}
	if again, e := metric.Widths(h, got); !slices.Equal(again, l) || e != api.OK {
		t.Fatalf("Widths of what is made of %+v, %.20v = %.20v, %d", h, l, again, e)
	}
	return e
}

// checkLoca holds Loca against the chapter's words; what is made is read again, with a table glyf that has no byte behind the last place, and with a longer one.
func checkLoca(t *testing.T, h api.Head, l []int) api.Errno {
	t.Helper()
	want, f := loca(h, l)
	got, e := metric.Loca(h, l)
	if got != want || e != f {
		t.Fatalf("Loca(%+v, %.20v of %d) = %.200q, %d; want %.200q, %d", h, l, len(l), got, e, want, f)
	}
	if e != api.OK {
		return e
	}
	for _, size := range []int{l[len(l)-1], 1 << 20} {
		if again, e := metric.Places(h, got, size); !slices.Equal(again, l) || e != api.OK {
			t.Fatalf("Places of what is made of %+v, %.20v = %.20v, %d", h, l, again, e)
		}
	}
	return e
}

// with is l with another number at a place.
func with(l []int, at, n int) []int {
	out := slices.Clone(l)
	out[at] = n
	return out
}

// same is n numbers, all of them the same.
func same(n, value int) []int {
	return slices.Repeat([]int{value}, n)
}

func TestExample(t *testing.T) {
	h := api.Head{Em: 1000, Glyphs: 3, Metrics: 1}
	l, e := metric.Widths(h, "\x01\xf4\x00\x00\x00\x00\x00\x00")
	if !slices.Equal(l, []int{500, 500, 500}) || e != api.OK {
		t.Errorf("%v, %d", l, e)
	}
	s, e := metric.Hmtx(h, []int{500, 500, 500})
	if s != "\x01\xf4\x00\x00\x00\x00\x00\x00" || e != api.OK {
		t.Errorf("%q, %d", s, e)
	}
}

// The bytes of tables hmtx, written out; those that tell no width may be any where they are read.
func TestWidthsBytes(t *testing.T) {
	for _, c := range []struct {
		glyphs, metrics int
		made, read      string
		widths          []int
	}{
		{1, 1, "\x00\x00\x00\x00", "\x00\x00\xff\xff", []int{0}},
		{1, 1, "\xff\xff\x00\x00", "\xff\xff\x12\x34", []int{65535}},
		{3, 3, "\x01\x02\x00\x00\x80\x00\x00\x00\x00\xff\x00\x00", "\x01\x02ab\x80\x00\x99\x98\x00\xffcd", []int{258, 32768, 255}},
		{3, 2, "\x01\x02\x00\x00\x00\x03\x00\x00\x00\x00", "\x01\x02ab\x00\x03cdef", []int{258, 3, 3}},
		{4, 1, "\x02\x58\x00\x00\x00\x00\x00\x00\x00\x00", "\x02\x58\xff\xfe\xfd\xfc\xfb\xfa\xf9\xf8", []int{600, 600, 600, 600}},
	} {
		for _, long := range []bool{false, true} {
			h := plain(c.glyphs, c.metrics, long)
			for _, s := range []string{c.made, c.read, c.made + "more", c.read + "\x00"} {
				if l, e := metric.Widths(h, s); !slices.Equal(l, c.widths) || e != api.OK {
					t.Errorf("Widths(%+v, %q) = %v, %d; want %v", h, s, l, e, c.widths)
				}
			}
			if s, e := metric.Hmtx(h, c.widths); s != c.made || e != api.OK {
				t.Errorf("Hmtx(%+v, %v) = %q, %d; want %q", h, c.widths, s, e, c.made)
			}
		}
	}
}

// The bytes of tables loca, written out.
func TestPlacesBytes(t *testing.T) {
	for _, c := range []struct {
		long   bool
		s      string
		places []int
	}{
		{false, "\x00\x00\x00\x00", []int{0, 0}},
		{false, "\x00\x00\x00\x01\x01\x02\xff\xff", []int{0, 2, 516, 131070}},
		{false, "\x00\x05\x80\x00\x80\x00", []int{10, 65536, 65536}},
		{true, "\x00\x00\x00\x00\x00\x00\x00\x00", []int{0, 0}},
		{true, "\x00\x00\x00\x01\x00\x00\x00\x03\x00\x01\x02\x03", []int{1, 3, 66051}},
		{true, "\x00\x0f\xff\xff\x00\x10\x00\x00\x00\x10\x00\x00", []int{1048575, 1048576, 1048576}},
	} {
		h := plain(len(c.places)-1, 1, c.long)
		last := c.places[len(c.places)-1]
		for _, size := range []int{last, last + 1, 1 << 21, math.MaxInt} {
			for _, s := range []string{c.s, c.s + "\x00", c.s + "more bytes"} {
				if l, e := metric.Places(h, s, size); !slices.Equal(l, c.places) || e != api.OK {
					t.Errorf("Places(%+v, %q, %d) = %v, %d; want %v", h, s, size, l, e, c.places)
				}
			}
		}
		if s, e := metric.Loca(h, c.places); s != c.s || e != api.OK {
			t.Errorf("Loca(%+v, %v) = %q, %d; want %q", h, c.places, s, e, c.s)
		}
	}
}

// Where h may not be, that is answered whatever else is handed in.
func TestWrongHead(t *testing.T) {
	for _, h := range wrong() {
		for _, s := range []string{"", "\x00", strings.Repeat("\x00", 8), "\x00\x09\x00\x00\x00\x08\x00\x00\x00\x07\x00\x00\x00\x06\x00\x00", strings.Repeat("\x00", 5000)} {
			if l, e := metric.Widths(h, s); len(l) != 0 || e != api.ErrArg {
				t.Errorf("Widths(%+v, %.20q) = %v, %d", h, s, l, e)
			}
			for _, size := range []int{math.MinInt, -1, 0, 6, 1 << 20} {
				if l, e := metric.Places(h, s, size); len(l) != 0 || e != api.ErrArg {
					t.Errorf("Places(%+v, %.20q, %d) = %v, %d", h, s, size, l, e)
				}
			}
		}
		for _, l := range [][]int{nil, {500}, {500, 500}, {500, 500, 500}, {2, 4, 6, 8}, {-1, 9}, same(1024, 2), same(1025, 2), same(1026, 2)} {
			if s, e := metric.Hmtx(h, l); s != "" || e != api.ErrArg {
				t.Errorf("Hmtx(%+v, %.20v) = %q, %d", h, l, s, e)
			}
			if s, e := metric.Loca(h, l); s != "" || e != api.ErrArg {
				t.Errorf("Loca(%+v, %.20v) = %q, %d", h, l, s, e)
			}
		}
	}
}

// What h says beside Glyphs, Metrics and Long counts for nothing, as long as it may be.
func TestOtherFields(t *testing.T) {
	for _, h := range []api.Head{{Em: 16, Ascent: 32767, Descent: -32768, Gap: -1}, {Em: 16384, Ascent: -32768, Descent: 32767, Gap: 32767}, {Em: 1000}} {
		for _, long := range []bool{false, true} {
			h.Glyphs, h.Metrics, h.Long = 3, 2, long
			for _, e := range []api.Errno{checkHmtx(t, h, []int{1, 2, 2}), checkLoca(t, h, []int{2, 4, 4, 6})} {
				if e != api.OK {
					t.Errorf("%+v: %d", h, e)
				}
			}
		}
	}
}

// Each length of both tables, for each number of glyphs and metrics up to some.
func TestShort(t *testing.T) {
	fill := "\x00\x01\x00\x02\x00\x03\x00\x04\x00\x05\x00\x06\x00\x07\x00\x08\x00\x09\x00\x0a\x00\x0b\x00\x0c\x00\x0d\x00\x0e\x00\x0f\x00\x10\x00\x11\x00\x12\x00\x13"
	for glyphs := 1; glyphs <= 7; glyphs++ {
		for metrics := 1; metrics <= glyphs; metrics++ {
			for _, long := range []bool{false, true} {
				h := plain(glyphs, metrics, long)
				wide, where := 2*glyphs+2*metrics, 2*glyphs+2
				if long {
					where *= 2
				}
				for n := range len(fill) + 1 {
					if e := checkWidths(t, h, fill[:n]); (e == api.OK) != (n >= wide) || (e == api.ErrEnd) != (n < wide) {
						t.Errorf("Widths(%+v, %d bytes): %d", h, n, e)
					}
					if e := checkPlaces(t, h, fill[:n], math.MaxInt); (e == api.OK) != (n >= where) || (e == api.ErrEnd) != (n < where) {
						t.Errorf("Places(%+v, %d bytes): %d", h, n, e)
					}
				}
			}
		}
	}
}

// The most glyphs that may be, with each number of metrics that is at an edge.
func TestMost(t *testing.T) {
	for _, metrics := range []int{1, 2, 255, 256, 257, 1023, 1024} {
		for _, long := range []bool{false, true} {
			h := plain(1024, metrics, long)
			l := make([]int, 1024)
			for i := range l {
				l[i] = min(i, metrics-1) * 64
			}
			if e := checkHmtx(t, h, l); e != api.OK {
				t.Errorf("Hmtx(%+v): %d", h, e)
			}
			s, _ := metric.Hmtx(h, l)
			if e := checkWidths(t, h, s[:len(s)-1]); e != api.ErrEnd {
				t.Errorf("Widths(%+v), a byte less: %d", h, e)
			}
			l = make([]int, 1025)
			for i := range l {
				l[i] = i * 126
			}
			if e := checkLoca(t, h, l); e != api.OK {
				t.Errorf("Loca(%+v): %d", h, e)
			}
			s, _ = metric.Loca(h, l)
			if e := checkPlaces(t, h, s[:len(s)-1], 1<<20); e != api.ErrEnd {
				t.Errorf("Places(%+v), a byte less: %d", h, e)
			}
		}
	}
}

// All that the two bytes of a width, and those behind them, can say.
func TestWidthsNumbers(t *testing.T) {
	h := plain(4, 2, false)
	base := "\x01\x02\x03\x04\x05\x06\x07\x08\x09\x0a\x0b\x0c"
	for at := 0; at < len(base); at += 2 {
		for n := range 65536 {
			s := base[:at] + string([]byte{byte(n >> 8), byte(n)}) + base[at+2:]
			want := []int{258, 1286, 1286, 1286}
			switch at {
			case 0:
				want[0] = n
			case 4:
				want[1], want[2], want[3] = n, n, n
			}
			if l, e := metric.Widths(h, s); !slices.Equal(l, want) || e != api.OK {
				t.Fatalf("Widths(%q) = %v, %d; want %v", s, l, e, want)
			}
		}
	}
}

// All that two bytes can say, as a place between two others, and as the first and the last one.
func TestPlacesNumbers(t *testing.T) {
	// Of the places 20, 600 and 2000 one is another number; the table glyf ends at 3000.
	all := []int{20, 600, 2000}
	for _, long := range []bool{false, true} {
		h := plain(2, 1, long)
		base, e := metric.Loca(h, all)
		if e != api.OK {
			t.Fatal(e)
		}
		for i, bounds := range [][2]int{{0, 600}, {20, 2000}, {600, 3000}} {
			for n := range 65536 {
				place, at := 2*n, 2*i
				if long {
					place, at = n, 4*i+2
				}
				s := base[:at] + string([]byte{byte(n >> 8), byte(n)}) + base[at+2:]
				want := api.OK
				if place < bounds[0] || place > bounds[1] {
					want = api.ErrForm
				}
				if e := checkPlaces(t, h, s, 3000); e != want {
					t.Fatalf("Places(%+v, %q) = %d; want %d", h, s, e, want)
				}
			}
		}
	}
}

// Which error is answered, at the edges and of several.
func TestPlacesErrors(t *testing.T) {
	zeros := strings.Repeat("\x00", 12)
	for _, c := range []struct {
		name string
		long bool
		s    string
		size int
		e    api.Errno
	}{
		{"no glyph has bytes, nor is there a table glyf", false, zeros[:6], 0, api.OK},
		{"the same, long", true, zeros, 0, api.OK},
		{"a size below 0", false, zeros[:6], -1, api.ErrForm},
		{"a size far below 0, long", true, zeros, math.MinInt, api.ErrForm},
		{"all at the end", false, "\x00\x08\x00\x08\x00\x08", 16, api.OK},
		{"all at the end, long", true, "\x00\x00\x00\x11\x00\x00\x00\x11\x00\x00\x00\x11", 17, api.OK},
		{"the last one beyond the end", false, "\x00\x00\x00\x01\x00\x08", 15, api.ErrForm},
		{"the last one beyond the end, long", true, "\x00\x00\x00\x00\x00\x00\x00\x01\x00\x00\x00\x11", 16, api.ErrForm},
		{"the first one above the next", false, "\x00\x02\x00\x01\x00\x02", 16, api.ErrForm},
		{"the last one below the one ahead", false, "\x00\x01\x00\x02\x00\x01", 16, api.ErrForm},
		{"one less, long", true, "\x00\x00\x00\x05\x00\x00\x00\x04\x00\x00\x00\x05", 16, api.ErrForm},
		{"a place of 2^31", true, zeros[:8] + "\x80\x00\x00\x00", 1 << 20, api.ErrForm},
		{"a place of 2^32 - 1", true, zeros[:8] + "\xff\xff\xff\xff", 1 << 20, api.ErrForm},
		{"the first one 2^32 - 1, those behind it 0", true, "\xff\xff\xff\xff" + zeros[:8], math.MaxInt, api.ErrForm},
		{"places up to 2^32 - 1, of a greater table", true, "\x80\x00\x00\x00\xff\xff\xff\xff\xff\xff\xff\xff", 1 << 32, api.OK},
		{"places above 2^20, of a greater table", true, "\x00\x10\x00\x01\x00\x20\x00\x00\x00\x20\x00\x00", 1 << 21, api.OK},
		{"a place that would go round in two bytes", false, "\x00\x00\xff\xff\x80\x00", 1 << 20, api.ErrForm},
		{"the greatest places of two bytes", false, "\xff\xff\xff\xff\xff\xff", 131070, api.OK},
		{"the same, the end one less", false, "\xff\xff\xff\xff\xff\xff", 131069, api.ErrForm},
		{"no bytes", false, "", 16, api.ErrEnd},
		{"no bytes, long", true, "", 16, api.ErrEnd},
		{"short places where they are long", true, "\x00\x00\x00\x01\x00\x02", 16, api.ErrEnd},
		{"too short, and a place that is less", false, "\x00\x02\x00\x01\x00", 16, api.ErrEnd},
		{"too short, and a place beyond the end, long", true, "\xff\xff\xff\xff\x00\x00\x00\x00\x00\x00\x00", 16, api.ErrEnd},
		{"too short, and a size below 0", false, zeros[:5], -1, api.ErrEnd},
		{"wrong numbers behind the places", false, "\x00\x01\x00\x02\x00\x03\x00\x00\xff\xff", 16, api.OK},
		{"wrong numbers behind the places, long", true, zeros + "\x00\x00\x00\x01\xff\xff\xff\xff\x00", 0, api.OK},
	} {
		h := plain(2, 1, c.long)
		if l, e := metric.Places(h, c.s, c.size); e != c.e || e != api.OK && len(l) != 0 {
			t.Errorf("%s: %v, %d; want %d", c.name, l, e, c.e)
		}
		checkPlaces(t, h, c.s, c.size)
	}
}

// What may not be made: widths that aren't as many, don't fit, or aren't as the last metric's.
func TestHmtxErrors(t *testing.T) {
	h := plain(5, 3, false)
	fine := []int{0, 65535, 700, 700, 700}
	if e := checkHmtx(t, h, fine); e != api.OK {
		t.Error(e)
	}
	wrong := [][]int{nil, {}, {500}, fine[:3], fine[:4], append(slices.Clone(fine), 700), same(10, 700), {0, 65535, 700, 700, 701}, {0, 65535, 700, 699, 700}, {0, 65535, 700, 0, 0}, {0, 65535, 701, 700, 700}}
	for _, n := range []int{-1, -32768, -65535, -65536, 65536, 65536 + 700, 1<<32 + 700, math.MaxInt, math.MinInt} {
		for i := range fine {
			wrong = append(wrong, with(fine, i, n))
		}
		wrong = append(wrong, []int{0, 65535, n, n, n})
	}
	for _, l := range wrong {
		if s, e := metric.Hmtx(h, l); s != "" || e != api.ErrArg {
			t.Errorf("Hmtx(%v) = %q, %d", l, s, e)
		}
		checkHmtx(t, h, l)
	}
	for metrics := 1; metrics <= 4; metrics++ {
		want := api.OK
		if metrics < 3 {
			want = api.ErrArg
		}
		if e := checkHmtx(t, plain(4, metrics, true), []int{1, 2, 3, 3}); e != want {
			t.Errorf("%d metrics: %d; want %d", metrics, e, want)
		}
	}
}

// Each width that fits, and those about it.
func TestHmtxNumbers(t *testing.T) {
	for n := -3; n < 65540; n++ {
		want := api.OK
		if n < 0 || n > 65535 {
			want = api.ErrArg
		}
		if e := checkHmtx(t, plain(2, 1, false), []int{n, n}); e != want {
			t.Fatalf("%d: %d; want %d", n, e, want)
		}
	}
}

// What may not be made: places that aren't as many, aren't within their bounds, are below the one ahead, or can't be told in two bytes.
func TestLocaErrors(t *testing.T) {
	for _, c := range []struct {
		name   string
		places []int
		short  api.Errno
		long   api.Errno
	}{
		{"fine", []int{0, 2, 2, 8}, api.OK, api.OK},
		{"all 0", same(4, 0), api.OK, api.OK},
		{"all the greatest of two bytes", same(4, 131070), api.OK, api.OK},
		{"one above that", []int{0, 2, 2, 131072}, api.ErrArg, api.OK},
		{"odd above that", []int{0, 2, 2, 131071}, api.ErrArg, api.OK},
		{"one odd", []int{0, 2, 3, 8}, api.ErrArg, api.OK},
		{"the first one odd", []int{1, 2, 2, 8}, api.ErrArg, api.OK},
		{"the last one odd", []int{0, 2, 2, 9}, api.ErrArg, api.OK},
		{"all the greatest", same(4, 1<<20), api.ErrArg, api.OK},
		{"one above that, last", []int{0, 2, 2, 1<<20 + 1}, api.ErrArg, api.ErrArg},
		{"two above that, last", []int{0, 2, 2, 1<<20 + 2}, api.ErrArg, api.ErrArg},
		{"one above that, all", same(4, 1<<20+1), api.ErrArg, api.ErrArg},
		{"2^17, that goes round in two bytes", same(4, 1<<17), api.ErrArg, api.OK},
		{"2^32, that goes round in four bytes", []int{0, 0, 0, 1 << 32}, api.ErrArg, api.ErrArg},
		{"2^32 and 8", []int{0, 2, 2, 1<<32 + 8}, api.ErrArg, api.ErrArg},
		{"the greatest number", []int{0, 2, 2, math.MaxInt}, api.ErrArg, api.ErrArg},
		{"the first one below 0", []int{-2, 2, 2, 8}, api.ErrArg, api.ErrArg},
		{"the first one -1", []int{-1, 2, 2, 8}, api.ErrArg, api.ErrArg},
		{"all below 0", same(4, -2), api.ErrArg, api.ErrArg},
		{"the least number", []int{math.MinInt, 2, 2, 8}, api.ErrArg, api.ErrArg},
		{"the first one above the next", []int{4, 2, 4, 8}, api.ErrArg, api.ErrArg},
		{"the last one below the one ahead", []int{0, 2, 4, 2}, api.ErrArg, api.ErrArg},
		{"falling", []int{8, 6, 4, 2}, api.ErrArg, api.ErrArg},
		{"one in the middle below those about it", []int{4, 6, 4, 6}, api.ErrArg, api.ErrArg},
		{"nil", nil, api.ErrArg, api.ErrArg},
		{"one less", []int{0, 2, 8}, api.ErrArg, api.ErrArg},
		{"one more", []int{0, 2, 2, 8, 8}, api.ErrArg, api.ErrArg},
		{"twice as many", same(8, 0), api.ErrArg, api.ErrArg},
	} {
		for _, long := range []bool{false, true} {
			want := c.short
			if long {
				want = c.long
			}
			for metrics := 1; metrics <= 3; metrics++ {
				h := plain(3, metrics, long)
				if s, e := metric.Loca(h, c.places); e != want || e != api.OK && s != "" {
					t.Errorf("%s, %t: %q, %d; want %d", c.name, long, s, e, want)
				}
				checkLoca(t, h, c.places)
			}
		}
	}
}

// Each place that may be, and those about it.
func TestLocaNumbers(t *testing.T) {
	for n := -3; n < 1<<20+4; n++ {
		short, long := api.OK, api.OK
		if n < 0 || n > 1<<20 {
			long = api.ErrArg
		}
		if n < 0 || n%2 == 1 || n > 131070 {
			short = api.ErrArg
		}
		for _, c := range []struct {
			long bool
			e    api.Errno
		}{{false, short}, {true, long}} {
			if n > 140000 && n < 1<<20-20 && n%97 > 0 {
				continue
			}
			if e := checkLoca(t, plain(1, 1, c.long), []int{n, n}); e != c.e {
				t.Fatalf("%d, %t: %d; want %d", n, c.long, e, c.e)
			}
		}
	}
}

// Any bytes, of all lengths, and sizes of which many are about the places.
func TestReadAny(t *testing.T) {
	from := rand.New(rand.NewSource(11))
	wide, where := map[api.Errno]int{}, map[api.Errno]int{}
	for range 100000 {
		h := plain(1+from.Intn(12), 1, from.Intn(2) == 0)
		h.Metrics = 1 + from.Intn(h.Glyphs)
		if from.Intn(10) == 0 {
			all := wrong()
			h = all[from.Intn(len(all))]
		}
		b := make([]byte, from.Intn(60))
		from.Read(b)
		wide[checkWidths(t, h, string(b))]++
		last := 0
		b = b[:0]
		for range from.Intn(18) {
			last += from.Intn(9) - from.Intn(4)/3
			if h.Long {
				b = append(b, 0, 0, byte(last>>8), byte(last))
			} else {
				b = append(b, byte(last>>8), byte(last))
			}
		}
		where[checkPlaces(t, h, string(b), last+from.Intn(8)-2)]++
	}
	for _, e := range []api.Errno{api.OK, api.ErrArg, api.ErrEnd} {
		if wide[e] < 1000 {
			t.Errorf("Widths answers %d %d times", e, wide[e])
		}
	}
	for _, e := range []api.Errno{api.OK, api.ErrArg, api.ErrEnd, api.ErrForm} {
		if where[e] < 1000 {
			t.Errorf("Places answers %d %d times", e, where[e])
		}
	}
}

// Any widths and places, of which most may be; what is made is read again.
func TestMadeAny(t *testing.T) {
	from := rand.New(rand.NewSource(12))
	wide, where := map[api.Errno]int{}, map[api.Errno]int{}
	for range 50000 {
		h := plain(1+from.Intn(1+from.Intn(40)), 1, from.Intn(2) == 0)
		h.Metrics = 1 + from.Intn(h.Glyphs)
		l := make([]int, h.Glyphs)
		for i := range l {
			l[i] = from.Intn(65536)
			if i >= h.Metrics {
				l[i] = l[h.Metrics-1]
			}
		}
		if from.Intn(2) == 0 {
			l[from.Intn(len(l))] += from.Intn(3) - 1 + (from.Intn(3)-1)*65536
		}
		wide[checkHmtx(t, h, l)]++
		most := 65535
		if h.Long {
			most = 1 << 20
		}
		l = make([]int, h.Glyphs+1)
		for i := range l {
			l[i] = from.Intn(most + 1)
			if !h.Long {
				l[i] *= 2
			}
		}
		slices.Sort(l)
		if from.Intn(2) == 0 {
			l[from.Intn(len(l))] += from.Intn(5) - 2
		}
		where[checkLoca(t, h, l)]++
	}
	for _, e := range []api.Errno{api.OK, api.ErrArg} {
		if wide[e] < 1000 || where[e] < 1000 {
			t.Errorf("%d is answered %d and %d times", e, wide[e], where[e])
		}
	}
}

// What is answered is the caller's own, and what is handed in is left as it is.
func TestOwn(t *testing.T) {
	h := plain(3, 2, false)
	l, at := []int{1, 2, 2}, []int{2, 4, 4, 6}
	s, _ := metric.Hmtx(h, l)
	p, _ := metric.Loca(h, at)
	if !slices.Equal(l, []int{1, 2, 2}) || !slices.Equal(at, []int{2, 4, 4, 6}) {
		t.Errorf("%v, %v", l, at)
	}
	l[0], at[0] = 9, 0
	for range 2 {
		wide, e := metric.Widths(h, s)
		if !slices.Equal(wide, []int{1, 2, 2}) || e != api.OK {
			t.Errorf("%v, %d", wide, e)
		}
		where, e := metric.Places(h, p, 6)
		if !slices.Equal(where, []int{2, 4, 4, 6}) || e != api.OK {
			t.Errorf("%v, %d", where, e)
		}
		wide[0], where[0] = 9, 9
	}
}
