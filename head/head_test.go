package head_test

import (
	"math"
	"math/rand"
	"slices"
	"strings"
	"testing"

	"pochoir/api"
	"pochoir/head"
	"pochoir/table"
)

// plain is a font's head of ordinary numbers, each another one.
func plain() api.Head {
	return api.Head{Em: 1000, Long: true, Glyphs: 300, Metrics: 270, Ascent: 800, Descent: -200, Gap: 90}
}

// full is tables in which all bytes that may be any are others than 0.
func full(h api.Head) []api.Table {
	said := map[string][]int{
		"head": {0, 4, 12, 16, 18, 20, 50, 54},
		"hhea": {0, 10, 32, 36},
		"maxp": {0, 6},
	}
	out := made(h)
	for i, t := range out {
		b := []byte(t.Data)
		for j := range b {
			b[j] = byte(j*37 + 101)
		}
		for k := 0; k < len(said[t.Tag]); k += 2 {
			from, to := said[t.Tag][k], said[t.Tag][k+1]
			copy(b[from:to], t.Data[from:to])
		}
		out[i].Data = string(b)
	}
	return out
}

// checkParse holds Parse against the chapter's words.
func checkParse(t *testing.T, l []api.Table) api.Errno {
	t.Helper()
	want, f := parsed(l)
	got, e := head.Parse(l)
	if got != want || e != f {
		t.Fatalf("Parse(%.400q) = %+v, %d; want %+v, %d", l, got, e, want, f)
	}
	return e
}

// checkMade holds May and Make against the chapter's words, and tells whether h may be; then it is parsed to itself.
func checkMade(t *testing.T, h api.Head) bool {
	t.Helper()
	got, e := head.Make(h)
	if !may(h) {
		if head.May(h) || len(got) != 0 || e != api.ErrArg {
			t.Fatalf("May(%+v) = %t, Make: %q, %d; want ErrArg", h, head.May(h), got, e)
		}
		return false
	}
	if want := made(h); !head.May(h) || !slices.Equal(got, want) || e != api.OK {
		t.Fatalf("May(%+v) = %t, Make: %q, %d; want %q", h, head.May(h), got, e, want)
	}
	if again, e := head.Parse(got); again != h || e != api.OK {
		t.Fatalf("Parse of what is made of %+v = %+v, %d", h, again, e)
	}
	return true
}

// edges are numbers about all bounds, and such as are within them only if they go round.
func edges() []int {
	var out []int
	for _, n := range []int{0, 15, 269, 300, 1000, 1024, 16384, 1 << 15, 1 << 16, 1<<16 + 16, 1<<16 + 300, 1<<16 + 1024, 1<<16 + 16384, 1 << 31, 1 << 32, 1<<32 + 300} {
		for i := -1; i <= 1; i++ {
			out = append(out, n+i, -n+i)
		}
	}
	return append(out, math.MaxInt, math.MinInt)
}

func TestExample(t *testing.T) {
	h := api.Head{Em: 1000, Glyphs: 3, Metrics: 1}
	l, e := head.Make(h)
	if e != api.OK {
		t.Fatal(e)
	}
	if got, e := head.Parse(l); got != h || e != api.OK {
		t.Errorf("%+v, %d", got, e)
	}
}

// The bytes, written out.
func TestMakeBytes(t *testing.T) {
	zeros := func(n int) string { return strings.Repeat("\x00", n) }
	for _, c := range []struct {
		h    api.Head
		want []api.Table
	}{
		{
			api.Head{Em: 1000, Long: true, Glyphs: 300, Metrics: 270, Ascent: 800, Descent: -200, Gap: 90},
			[]api.Table{
				{Tag: "head", Data: "\x00\x01\x00\x00" + zeros(8) + "\x5f\x0f\x3c\xf5" + zeros(2) + "\x03\xe8" + zeros(30) + "\x00\x01\x00\x00"},
				{Tag: "hhea", Data: "\x00\x01\x00\x00\x03\x20\xff\x38\x00\x5a" + zeros(24) + "\x01\x0e"},
				{Tag: "maxp", Data: "\x00\x01\x00\x00\x01\x2c" + zeros(26)},
			},
		},
		{
			api.Head{Em: 16, Glyphs: 1, Metrics: 1, Ascent: -1, Descent: 32767, Gap: -32768},
			[]api.Table{
				{Tag: "head", Data: "\x00\x01\x00\x00" + zeros(8) + "\x5f\x0f\x3c\xf5" + zeros(2) + "\x00\x10" + zeros(34)},
				{Tag: "hhea", Data: "\x00\x01\x00\x00\xff\xff\x7f\xff\x80\x00" + zeros(24) + "\x00\x01"},
				{Tag: "maxp", Data: "\x00\x01\x00\x00\x00\x01" + zeros(26)},
			},
		},
		{
			api.Head{Em: 16384, Long: true, Glyphs: 1024, Metrics: 1024},
			[]api.Table{
				{Tag: "head", Data: "\x00\x01\x00\x00" + zeros(8) + "\x5f\x0f\x3c\xf5" + zeros(2) + "\x40\x00" + zeros(30) + "\x00\x01\x00\x00"},
				{Tag: "hhea", Data: "\x00\x01\x00\x00" + zeros(30) + "\x04\x00"},
				{Tag: "maxp", Data: "\x00\x01\x00\x00\x04\x00" + zeros(26)},
			},
		},
	} {
		got, e := head.Make(c.h)
		if e != api.OK || !slices.Equal(got, c.want) {
			t.Errorf("Make(%+v) = %q, %d; want %q", c.h, got, e, c.want)
		}
		if len(got[0].Data) != 54 || len(got[1].Data) != 36 || len(got[2].Data) != 32 {
			t.Errorf("Make(%+v): the lengths", c.h)
		}
		if h, e := head.Parse(c.want); h != c.h || e != api.OK {
			t.Errorf("Parse(%q) = %+v, %d; want %+v", c.want, h, e, c.h)
		}
	}
}

// The bounds, written out.
func TestMayBounds(t *testing.T) {
	for _, c := range []struct {
		name        string
		field       func(h *api.Head) *int
		least, most int
	}{
		{"Em", func(h *api.Head) *int { return &h.Em }, 16, 16384},
		{"Glyphs", func(h *api.Head) *int { return &h.Glyphs }, 270, 1024},
		{"Metrics", func(h *api.Head) *int { return &h.Metrics }, 1, 300},
		{"Ascent", func(h *api.Head) *int { return &h.Ascent }, -32768, 32767},
		{"Descent", func(h *api.Head) *int { return &h.Descent }, -32768, 32767},
		{"Gap", func(h *api.Head) *int { return &h.Gap }, -32768, 32767},
	} {
		for n := -1 << 17; n <= 1<<17; n++ {
			h := plain()
			*c.field(&h) = n
			want := n >= c.least && n <= c.most
			if got := checkMade(t, h); got != want || head.May(h) != want {
				t.Fatalf("%s %d: %t", c.name, n, got)
			}
		}
		for _, n := range edges() {
			h := plain()
			*c.field(&h) = n
			want := n >= c.least && n <= c.most
			if got := checkMade(t, h); got != want || head.May(h) != want {
				t.Errorf("%s %d: %t", c.name, n, got)
			}
		}
	}
}

// All that may be of a glyph and of all glyphs, with each number of metrics, and one about it.
func TestMadeMetrics(t *testing.T) {
	for _, glyphs := range []int{-1, 0, 1, 2, 3, 255, 256, 257, 1023, 1024, 1025, 65536, 65537} {
		for metrics := -2; metrics <= 1026; metrics++ {
			for _, long := range []bool{false, true} {
				h := api.Head{Em: 16, Long: long, Glyphs: glyphs, Metrics: metrics}
				want := glyphs >= 1 && glyphs <= 1024 && metrics >= 1 && metrics <= glyphs
				if got := checkMade(t, h); got != want {
					t.Errorf("%d glyphs, %d metrics: %t", glyphs, metrics, got)
				}
			}
		}
	}
}

// Any numbers, of which most are about the bounds.
func TestMadeAny(t *testing.T) {
	from := rand.New(rand.NewSource(10))
	all := edges()
	seen := map[bool]int{}
	// Most of the numbers are within their bounds, so that those that aren't stand alone as well.
	pick := func(least, most int) int {
		if from.Intn(12) == 0 {
			return all[from.Intn(len(all))]
		}
		return least + from.Intn(most-least+1)
	}
	for range 200000 {
		h := api.Head{Em: pick(16, 16384), Long: from.Intn(2) == 0, Glyphs: pick(1, 1024), Ascent: pick(-32768, 32767), Descent: pick(-32768, 32767), Gap: pick(-32768, 32767)}
		h.Metrics = pick(1, max(1, min(1024, h.Glyphs)))
		seen[checkMade(t, h)]++
	}
	if seen[true] < 10000 || seen[false] < 10000 {
		t.Error(seen)
	}
	if checkMade(t, api.Head{}) {
		t.Error("the zero value may be")
	}
}

// All that a number of two bytes can say, at each place where one is, with other bytes 0 and with others.
func TestParseNumbers(t *testing.T) {
	for _, c := range []struct {
		tag         string
		at          int
		least, most int
		get         func(h api.Head) int
	}{
		{"head", 0, 1, 1, nil},
		{"head", 2, 0, 0, nil},
		{"head", 12, 0x5f0f, 0x5f0f, nil},
		{"head", 14, 0x3cf5, 0x3cf5, nil},
		{"head", 18, 16, 16384, func(h api.Head) int { return h.Em }},
		{"head", 50, 0, 1, func(h api.Head) int {
			if h.Long {
				return 1
			}
			return 0
		}},
		{"head", 52, 0, 0, nil},
		{"maxp", 0, 1, 1, nil},
		{"maxp", 2, 0, 0, nil},
		{"maxp", 4, 270, 1024, func(h api.Head) int { return h.Glyphs }},
		{"hhea", 0, 1, 1, nil},
		{"hhea", 2, 0, 0, nil},
		{"hhea", 4, 0, 65535, func(h api.Head) int { return h.Ascent & 65535 }},
		{"hhea", 6, 0, 65535, func(h api.Head) int { return h.Descent & 65535 }},
		{"hhea", 8, 0, 65535, func(h api.Head) int { return h.Gap & 65535 }},
		{"hhea", 32, 0, 0, nil},
		{"hhea", 34, 1, 300, func(h api.Head) int { return h.Metrics }},
	} {
		for _, base := range [][]api.Table{made(plain()), full(plain())} {
			for n := range 65536 {
				l := changed(base, c.tag, c.at, string([]byte{byte(n >> 8), byte(n)}))
				want := api.OK
				if n < c.least || n > c.most {
					want = api.ErrForm
				}
				if c.tag == "maxp" && c.at == 4 && n > c.most {
					want = api.ErrLong
				}
				if e := checkParse(t, l); e != want {
					t.Fatalf("%s with %d at %d: %d; want %d", c.tag, n, c.at, e, want)
				}
				if h, e := head.Parse(l); e == api.OK && c.get != nil && c.get(h) != n {
					t.Fatalf("%s with %d at %d: %+v", c.tag, n, c.at, h)
				}
			}
		}
	}
}

// Each byte turned into each other one.
func TestParseBytes(t *testing.T) {
	for _, base := range [][]api.Table{made(plain()), full(plain())} {
		for _, one := range base {
			for i := range len(one.Data) {
				for b := range 256 {
					checkParse(t, changed(base, one.Tag, i, string([]byte{byte(b)})))
				}
			}
		}
	}
}

// The bytes that say nothing may be any, and there may be more of them.
func TestParseOthers(t *testing.T) {
	from := rand.New(rand.NewSource(11))
	for range 1000 {
		l := full(plain())
		for i := range l {
			more := make([]byte, from.Intn(200))
			from.Read(more)
			l[i].Data += string(more)
		}
		if h, e := head.Parse(l); h != plain() || e != api.OK {
			t.Fatalf("%+v, %d", h, e)
		}
	}
	l := full(plain())
	l[0].Data += strings.Repeat("x", 1<<20)
	if h, e := head.Parse(l); h != plain() || e != api.OK {
		t.Errorf("%+v, %d", h, e)
	}
}

// Each length of each table.
func TestParseShort(t *testing.T) {
	for tag, least := range map[string]int{"head": 54, "hhea": 36, "maxp": 32} {
		base := full(plain())
		for i := range base {
			base[i].Data += "more bytes"
		}
		for n := range least + 10 {
			want := api.OK
			if n < least {
				want = api.ErrEnd
			}
			if e := checkParse(t, cut(base, tag, n)); e != want {
				t.Errorf("%s of %d bytes: %d; want %d", tag, n, e, want)
			}
		}
	}
}

// Which error is answered of several.
func TestParseErrors(t *testing.T) {
	all := made(plain())
	wrong := "\x99\x99"
	// Each step adds a fault that stands, in the chapter's order, ahead of all those of the steps before.
	l := all
	steps := []struct {
		name string
		next func() []api.Table
		e    api.Errno
	}{
		{"right", func() []api.Table { return all }, api.OK},
		{"the metrics", func() []api.Table { return changed(l, "hhea", 34, wrong) }, api.ErrForm},
		{"hhea's end", func() []api.Table { return cut(l, "hhea", 35) }, api.ErrEnd},
		{"no hhea", func() []api.Table { return without(l, "hhea") }, api.ErrNone},
		{"no glyphs", func() []api.Table { return changed(l, "maxp", 4, "\x00\x00") }, api.ErrForm},
		{"too many glyphs", func() []api.Table { return changed(l, "maxp", 4, "\x04\x01") }, api.ErrLong},
		{"maxp's beginning", func() []api.Table { return changed(l, "maxp", 0, wrong) }, api.ErrForm},
		{"maxp's end", func() []api.Table { return cut(l, "maxp", 31) }, api.ErrEnd},
		{"no maxp", func() []api.Table { return without(l, "maxp") }, api.ErrNone},
		{"head's last number", func() []api.Table { return changed(l, "head", 52, wrong) }, api.ErrForm},
		{"head's end", func() []api.Table { return cut(l, "head", 53) }, api.ErrEnd},
		{"no head", func() []api.Table { return without(l, "head") }, api.ErrNone},
		{"no list", func() []api.Table { return nil }, api.ErrNone},
	}
	for _, s := range steps {
		l = s.next()
		if h, e := head.Parse(l); e != s.e || e != api.OK && h != (api.Head{}) {
			t.Errorf("%s: %+v, %d; want %d", s.name, h, e, s.e)
		}
		checkParse(t, l)
	}
	for _, c := range []struct {
		name string
		l    []api.Table
		e    api.Errno
	}{
		{"no maxp, hhea wrong", without(changed(all, "hhea", 0, wrong), "maxp"), api.ErrNone},
		{"no hhea, maxp too short", without(cut(all, "maxp", 6), "hhea"), api.ErrEnd},
		{"no maxp, head wrong", without(changed(all, "head", 0, wrong), "maxp"), api.ErrForm},
		{"maxp of the number alone", cut(changed(all, "maxp", 4, "\xff\xff"), "maxp", 6), api.ErrEnd},
		{"too many glyphs, the beginning another one", changed(changed(all, "maxp", 4, "\xff\xff"), "maxp", 1, "\x02"), api.ErrForm},
		{"too many glyphs, hhea wrong", changed(changed(all, "maxp", 4, "\xff\xff"), "hhea", 0, wrong), api.ErrLong},
		{"no glyphs and no metrics", changed(changed(all, "maxp", 4, "\x00\x00"), "hhea", 34, "\x00\x00"), api.ErrForm},
		{"maxp's short version", changed(all, "maxp", 0, "\x00\x00\x50\x00"), api.ErrForm},
		{"bytes of none", []api.Table{{Tag: "head"}, {Tag: "hhea"}, {Tag: "maxp"}}, api.ErrEnd},
	} {
		if h, e := head.Parse(c.l); e != c.e || h != (api.Head{}) {
			t.Errorf("%s: %+v, %d; want %d", c.name, h, e, c.e)
		}
		checkParse(t, c.l)
	}
}

// Of tables of one tag the first one counts; tables of other tags, and the order, count for nothing.
func TestParseFirst(t *testing.T) {
	other := plain()
	other.Em, other.Glyphs, other.Metrics, other.Ascent = 2048, 5, 4, 1
	all := made(plain())
	behind := append(slices.Clone(all), made(other)...)
	ahead := append(made(other), all...)
	for _, c := range []struct {
		name string
		l    []api.Table
		h    api.Head
		e    api.Errno
	}{
		{"others behind", behind, plain(), api.OK},
		{"others ahead", ahead, other, api.OK},
		{"wrong ones behind", append(slices.Clone(all), api.Table{Tag: "head"}, api.Table{Tag: "hhea"}, api.Table{Tag: "maxp"}), plain(), api.OK},
		{"one too short ahead", append([]api.Table{{Tag: "hhea"}}, all...), api.Head{}, api.ErrEnd},
		{"a wrong one ahead", append(changed(all, "head", 0, "\x99")[:1:1], all...), api.Head{}, api.ErrForm},
		{"the other way round", []api.Table{all[2], all[1], all[0]}, plain(), api.OK},
		{"of other tags about", []api.Table{{Tag: "Head"}, all[1], {Tag: "hea"}, all[0], {Tag: "maxp "}, {Tag: ""}, all[2], {Tag: "heads", Data: "x"}}, plain(), api.OK},
		{"a blank in a tag", append([]api.Table{{Tag: "head ", Data: all[0].Data}}, all[1:]...), api.Head{}, api.ErrNone},
		{"great letters", append([]api.Table{{Tag: "HEAD", Data: all[0].Data}}, all[1:]...), api.Head{}, api.ErrNone},
	} {
		if h, e := head.Parse(c.l); h != c.h || e != c.e {
			t.Errorf("%s: %+v, %d; want %+v, %d", c.name, h, e, c.h, c.e)
		}
		checkParse(t, c.l)
	}
	for range 2 {
		if h, e := head.Parse(nil); h != (api.Head{}) || e != api.ErrNone {
			t.Errorf("nil: %+v, %d", h, e)
		}
	}
}

// Tables of all kinds, with several faults at once.
func TestParseAny(t *testing.T) {
	from := rand.New(rand.NewSource(12))
	seen := map[api.Errno]int{}
	// The bytes that must be as told, by the order of what is made.
	places := [][]int{{0, 1, 2, 3, 12, 13, 14, 15, 18, 19, 50, 51, 52, 53}, {0, 1, 2, 3, 32, 33, 34, 35}, {0, 1, 2, 3, 4, 5}}
	for range 200000 {
		h := api.Head{Em: 16 + from.Intn(16369), Long: from.Intn(2) == 0, Glyphs: 1 + from.Intn(1024), Ascent: int(int16(from.Int())), Descent: int(int16(from.Int())), Gap: int(int16(from.Int()))}
		h.Metrics = 1 + from.Intn(h.Glyphs)
		l := full(h)
		for range from.Intn(4) {
			i := from.Intn(3)
			switch from.Intn(6) {
			case 0:
				l[i].Data = l[i].Data[:from.Intn(len(l[i].Data)+1)]
			case 1:
				l[i].Tag = l[i].Tag[:3] + "x"
			case 2:
				l = append(l, l[i])
			default:
				if at := places[i][from.Intn(len(places[i]))]; at < len(l[i].Data) {
					l[i].Data = with(l[i].Data, at, string([]byte{byte(from.Intn(256) >> from.Intn(9))}))
				}
			}
		}
		from.Shuffle(len(l), func(i, j int) { l[i], l[j] = l[j], l[i] })
		seen[checkParse(t, l)]++
	}
	for _, e := range []api.Errno{api.OK, api.ErrNone, api.ErrEnd, api.ErrForm, api.ErrLong} {
		if seen[e] < 1000 {
			t.Errorf("%d is answered %d times", e, seen[e])
		}
	}
}

// What is made is tables of a font, in the order in which a font has them.
func TestMadeFont(t *testing.T) {
	for _, h := range []api.Head{plain(), {Em: 16, Glyphs: 1, Metrics: 1}, {Em: 16384, Long: true, Glyphs: 1024, Metrics: 1024, Ascent: 32767, Descent: -32768, Gap: -1}} {
		l, _ := head.Make(h)
		s, e := table.Make(l)
		if e != api.OK {
			t.Fatal(e)
		}
		l, e = table.Parse(s)
		if e != api.OK {
			t.Fatal(e)
		}
		if got, e := head.Parse(l); got != h || e != api.OK {
			t.Errorf("%+v, %d; want %+v", got, e, h)
		}
	}
}

// What is answered is the caller's own, and what is handed in is left as it is.
func TestOwn(t *testing.T) {
	l, _ := head.Make(plain())
	kept := slices.Clone(l)
	head.Parse(l)
	if !slices.Equal(l, kept) {
		t.Errorf("%q", l)
	}
	l[0] = api.Table{Tag: "else"}
	if again, _ := head.Make(plain()); !slices.Equal(again, kept) {
		t.Errorf("%q", again)
	}
}
