package font_test

import (
	"encoding/hex"
	"fmt"
	"math"
	"math/rand"
	"slices"
	"strings"
	"testing"

	"pochoir/api"
	"pochoir/cmap"
	"pochoir/comp"
	"pochoir/edge"
	"pochoir/flat"
	"pochoir/font"
	"pochoir/glyf"
	"pochoir/head"
	"pochoir/metric"
	"pochoir/octet"
	"pochoir/table"
)

// far are numbers that are far from all bounds, or that are within them once they go round.
var far = []int{math.MinInt, math.MinInt + 1, -1<<32 + 1, -1 << 32, 1 << 32, 1<<32 + 1, 1<<32 + 65, -1 << 16, 1<<16 + 1, math.MaxInt - 1, math.MaxInt}

// brief is anything in a text that isn't too long.
func brief(v any) string {
	return fmt.Sprintf("%.300s", fmt.Sprint(v))
}

// same tells whether two lists of contours are the same.
func same(a, b [][]api.Point) bool {
	return slices.EqualFunc(a, b, slices.Equal)
}

// checkNew holds New, and all calls of what it answers, against the chapter's words.
func checkNew(t *testing.T, s string) api.Errno {
	t.Helper()
	want, f := read(s)
	got, e := font.New(s)
	if e != f || (got == nil) != (e != api.OK) {
		t.Fatalf("New(%.300q of %d bytes) = %t, %d; want %d", s, len(s), got != nil, e, f)
	}
	check(t, got, want)
	return e
}

// check holds a font's calls against what it must tell.
func check(t *testing.T, f *font.Font, want told) {
	t.Helper()
	if got := f.Head(); got != want.head {
		t.Fatalf("Head() = %v; want %v", got, want.head)
	}
	if got := f.Pairs(); !slices.Equal(got, want.pairs) {
		t.Fatalf("Pairs() = %s of %d; want %s of %d", brief(got), len(got), brief(want.pairs), len(want.pairs))
	}
	codes := append([]int{-1, 0, 0xfffe, 0xffff, 0x10000, api.MaxCode, api.MaxCode + 1}, far...)
	for _, p := range want.pairs[:min(len(want.pairs), 40)] {
		codes = append(codes, p.Code-1, p.Code, p.Code+1)
	}
	for _, code := range codes {
		if got := f.Glyph(code); got != found(want.pairs, code) {
			t.Fatalf("Glyph(%d) = %d; want %d", code, got, found(want.pairs, code))
		}
	}
	for glyph := range want.outlines {
		if got, e := f.Width(glyph); got != want.widths[glyph] || e != api.OK {
			t.Fatalf("Width(%d) = %d, %d; want %d", glyph, got, e, want.widths[glyph])
		}
		if got, e := f.Outline(glyph); !same(got, want.outlines[glyph]) || e != api.OK {
			t.Fatalf("Outline(%d) = %s, %d; want %s", glyph, brief(got), e, brief(want.outlines[glyph]))
		}
		checkEdges(t, f, glyph, 1+glyph%128, want.outlines[glyph])
	}
	for _, glyph := range append(far, -1, len(want.outlines)) {
		checkNone(t, f, glyph)
	}
}

// checkEdges holds Edges against the edges of an outline.
func checkEdges(t *testing.T, f *font.Font, glyph, px int, outline [][]api.Point) {
	t.Helper()
	want, _ := edge.Edges(outline, px)
	if got, e := f.Edges(glyph, px); !slices.Equal(got, want) || e != api.OK {
		t.Fatalf("Edges(%d, %d) = %s, %d; want %s", glyph, px, brief(got), e, brief(want))
	}
}

// checkNone asks for a glyph that isn't there.
func checkNone(t *testing.T, f *font.Font, glyph int) {
	t.Helper()
	if got, e := f.Width(glyph); got != 0 || e != api.ErrArg {
		t.Fatalf("Width(%d) = %d, %d", glyph, got, e)
	}
	if got, e := f.Outline(glyph); got != nil || e != api.ErrArg {
		t.Fatalf("Outline(%d) = %s, %d", glyph, brief(got), e)
	}
	for _, px := range []int{0, 1, 128, 129} {
		if got, e := f.Edges(glyph, px); got != nil || e != api.ErrArg {
			t.Fatalf("Edges(%d, %d) = %s, %d", glyph, px, brief(got), e)
		}
	}
}

// checkMake holds Make against the chapter's words, and what is made against what it was made of.
func checkMake(t *testing.T, h api.Head, widths []int, shapes []api.Shape, pairs []api.Pair) (string, api.Errno) {
	t.Helper()
	want, g := made(h, widths, shapes, pairs)
	s, e := font.Make(h, widths, shapes, pairs)
	if e != g || s != want {
		t.Fatalf("Make(%v, %s, %s of %d, %s of %d) = %.300q of %d bytes, %d; want %.300q of %d bytes, %d", h, brief(widths), brief(shapes), len(shapes), brief(pairs), len(pairs), s, len(s), e, want, len(want), g)
	}
	if e != api.OK {
		return s, e
	}
	all := told{head: h, widths: widths, pairs: pairs}
	var wrong api.Errno
	for glyph := range shapes {
		outline, e := flat.Outline(shapes, glyph)
		if e != api.OK && wrong == api.OK {
			wrong = e
		}
		all.outlines = append(all.outlines, outline)
	}
	f, e := font.New(s)
	if e != wrong || (f == nil) != (e != api.OK) {
		t.Fatalf("New of what is made of %v, %s: %t, %d; want %d", h, brief(shapes), f != nil, e, wrong)
	}
	if e == api.OK {
		check(t, f, all)
	}
	return s, api.OK
}

// at is a part that is moved, and not turned.
func at(glyph, dx, dy int) api.Part {
	return api.Part{Glyph: glyph, DX: dx, DY: dy, A: 16384, D: 16384}
}

// of is a shape of parts.
func of(parts ...api.Part) api.Shape {
	return api.Shape{Parts: parts}
}

// dot is a shape of one point on the outline.
func dot(x, y int) api.Shape {
	return api.Shape{Contours: [][]api.Point{{{X: x, Y: y, On: true}}}}
}

// corners is a shape of two contours.
func corners() api.Shape {
	return api.Shape{Contours: [][]api.Point{
		{{X: 0, Y: 0, On: true}, {X: 10, Y: 0}, {X: 10, Y: 20, On: true}},
		{{X: 3, Y: 5, On: true}, {X: -7, Y: 9}},
	}}
}

// long is a shape of n points, each of which takes five bytes, and so many more that take one: 14 bytes, and these.
func long(n, more int) api.Shape {
	var contour []api.Point
	for i := range n {
		contour = append(contour, api.Point{X: 1000 * (1 + i%2), Y: 1000 * (1 + i%2)})
	}
	for range more {
		contour = append(contour, contour[n-1])
	}
	return api.Shape{Contours: [][]api.Point{contour}}
}

// some is a font of all kinds of glyphs.
func some() (api.Head, []int, []api.Shape, []api.Pair) {
	h := api.Head{Em: 1000, Glyphs: 6, Metrics: 4, Ascent: 800, Descent: -200, Gap: 90}
	shapes := []api.Shape{dot(1, 2), {}, corners(), of(at(2, 5, -6)), of(at(3, 1, 1), api.Part{Glyph: 0, DX: 300, A: 8192, B: 1, C: -2, D: -16384}), {}}
	return h, []int{500, 0, 65535, 700, 700, 700}, shapes, []api.Pair{{Code: 32, Glyph: 1}, {Code: 65, Glyph: 2}, {Code: 66, Glyph: 3}, {Code: 0x3b1, Glyph: 2}}
}

// TestExample: no bytes are no font's.
func TestExample(t *testing.T) {
	if f, e := font.New(""); f != nil || e != api.ErrEnd {
		t.Errorf("%t, %d", f != nil, e)
	}
}

// written is a font's bytes, in base 16.
const written = `
00010000 0007 0040 0002 0030
636d6170 000c0074 0000007c 0000002c
676c7966 00003602 000000a8 00000020
68656164 5f103d05 000000c8 00000036
68686561 000efffd 00000100 00000024
686d7478 000a0000 00000124 00000006
6c6f6361 00100008 0000012c 00000006
6d617870 00030000 00000134 00000020
0000 0001 0003 0001 0000000c 0004 0020 0000 0004 0004 0001 0000 0041 ffff 0000 0041 ffff ffc0 0001 0000 0000
0001 0000 0000 0000 0000 0000 0000 31 00
ffff 0000 0000 0000 0000 0002 0000 05 00
0001 0000 00000000 00000000 5f0f3cf5 0000 0010 0000000000000000 0000000000000000 00000000000000000000 00000000 0000 0000 0000
0001 0000 000c fffc 0001 000000000000000000000000000000000000000000000000 0001
000a 0000 0000 0000
0000 0008 0010 0000
0001 0000 0002 0000000000000000000000000000000000000000000000000000`

// A font whose bytes are written out.
func TestWritten(t *testing.T) {
	bytes, err := hex.DecodeString(strings.Join(strings.Fields(written), ""))
	if err != nil {
		t.Fatal(err)
	}
	want := string(bytes)
	h := api.Head{Em: 16, Glyphs: 2, Metrics: 1, Ascent: 12, Descent: -4, Gap: 1}
	shapes := []api.Shape{dot(0, 0), of(at(0, 5, 0))}
	pairs := []api.Pair{{Code: 65, Glyph: 1}}
	if s, e := font.Make(h, []int{10, 10}, shapes, pairs); s != want || e != api.OK {
		t.Errorf("Make = %x, %d; want %x", s, e, want)
	}
	f, e := font.New(want)
	if e != api.OK {
		t.Fatal(e)
	}
	check(t, f, told{head: h, widths: []int{10, 10}, pairs: pairs, outlines: [][][]api.Point{{{{On: true}}}, {{{X: 5, On: true}}}}})
}

// What a font tells, written out.
func TestTold(t *testing.T) {
	h, widths, shapes, pairs := some()
	s, e := checkMake(t, h, widths, shapes, pairs)
	if e != api.OK {
		t.Fatal(e)
	}
	f, _ := font.New(s)
	moved := [][]api.Point{
		{{X: 5, Y: -6, On: true}, {X: 15, Y: -6}, {X: 15, Y: 14, On: true}},
		{{X: 8, Y: -1, On: true}, {X: -2, Y: 3}},
	}
	if got, e := f.Outline(3); !same(got, moved) || e != api.OK {
		t.Errorf("%v, %d", got, e)
	}
	want := []api.Edge{
		{Quad: true, A: api.Pt{X: 20, Y: -24}, B: api.Pt{X: 60, Y: -24}, C: api.Pt{X: 60, Y: 56}},
		{A: api.Pt{X: 60, Y: 56}, C: api.Pt{X: 20, Y: -24}},
		{Contour: 1, Quad: true, A: api.Pt{X: 32, Y: -4}, B: api.Pt{X: -8, Y: 12}, C: api.Pt{X: 32, Y: -4}},
	}
	if got, e := f.Edges(3, 2); !slices.Equal(got, want) || e != api.OK {
		t.Errorf("%v, %d", got, e)
	}
	for i, want := range []int{500, 0, 65535, 700, 700, 700} {
		if got, e := f.Width(i); got != want || e != api.OK {
			t.Errorf("Width(%d) = %d, %d", i, got, e)
		}
	}
	for code, want := range map[int]int{31: 0, 32: 1, 33: 0, 64: 0, 65: 2, 66: 3, 67: 0, 0x3b1: 2, 0: 0, 0xffff: 0} {
		if got := f.Glyph(code); got != want {
			t.Errorf("Glyph(%d) = %d", code, got)
		}
	}
	if got := f.Head(); got != h {
		t.Errorf("%v", got)
	}
	if got := f.Pairs(); !slices.Equal(got, pairs) {
		t.Errorf("%v", got)
	}
	for px := -2; px < 132; px++ {
		for glyph := range shapes {
			outline, _ := f.Outline(glyph)
			if px >= 1 && px <= 128 {
				checkEdges(t, f, glyph, px, outline)
			} else if got, e := f.Edges(glyph, px); got != nil || e != api.ErrArg {
				t.Errorf("Edges(%d, %d) = %v, %d", glyph, px, got, e)
			}
		}
	}
	for _, px := range far {
		if got, e := f.Edges(2, px); got != nil || e != api.ErrArg {
			t.Errorf("Edges(2, %d) = %v, %d", px, got, e)
		}
	}
}

// Of a font that isn't there, and of one of which nothing was read, there is nothing.
func TestNil(t *testing.T) {
	for _, f := range []*font.Font{nil, {}} {
		check(t, f, told{})
		checkNone(t, f, 0)
		checkNone(t, f, 1)
	}
}

// parcel is a font's tables, before they are laid together: cmap and such by their tags, and the bytes of each glyph.
type parcel struct {
	by     map[string]string
	glyphs []string
	long   bool
}

// wrapped is the tables of a font that may be.
func wrapped(t *testing.T, h api.Head, widths []int, shapes []api.Shape, pairs []api.Pair) parcel {
	t.Helper()
	p := parcel{by: map[string]string{}, long: h.Long}
	for _, s := range shapes {
		text, e := glyf.Make(s.Contours)
		if len(s.Parts) > 0 {
			text, e = comp.Make(s.Parts)
		}
		if e != api.OK {
			t.Fatal(e)
		}
		p.glyphs = append(p.glyphs, text)
	}
	l, e := head.Make(h)
	hmtx, f := metric.Hmtx(h, widths)
	codes, g := cmap.Make(pairs, true)
	if e != api.OK || f != api.OK || g != api.OK {
		t.Fatal(e, f, g)
	}
	for _, own := range append(l, api.Table{Tag: "hmtx", Data: hmtx}, api.Table{Tag: "cmap", Data: codes}) {
		p.by[own.Tag] = own.Data
	}
	return p
}

// lay lays the glyphs together, as glyf and loca.
func (p parcel) lay() {
	data, loca := "", ""
	for i := range len(p.glyphs) + 1 {
		if p.long {
			loca += octet.P32(uint32(len(data)))
		} else {
			loca += octet.P16(uint16(len(data) / 2))
		}
		if i < len(p.glyphs) {
			data += p.glyphs[i]
			data += strings.Repeat("?", len(data)%2)
		}
	}
	p.by["glyf"], p.by["loca"] = data, loca
}

// bytes is the font of these tables.
func (p parcel) bytes(t *testing.T) string {
	t.Helper()
	var l []api.Table
	for tag, data := range p.by {
		l = append(l, api.Table{Tag: tag, Data: data})
	}
	slices.SortFunc(l, func(a, b api.Table) int { return strings.Compare(a.Tag, b.Tag) })
	s, e := table.Make(l)
	if e != api.OK {
		t.Fatal(e)
	}
	return s
}

// put is a text with another one in place of what is at a place.
func put(s string, at int, other string) string {
	return s[:at] + other + s[at+len(other):]
}

// fault is one that a font's bytes may have, by its place in the chapter's order: what becomes of the glyphs, of the tables, or of all bytes.
type fault struct {
	name   string
	order  int
	e      api.Errno
	glyphs func(l []string)
	tables func(by map[string]string)
	bytes  func(s string) string
}

// faults is some for each place in the chapter's order, of a font as some tells.
func faults(t *testing.T) []fault {
	tower := func(last string) func(l []string) {
		return func(l []string) {
			for i := range 9 {
				l[6+i], _ = comp.Make([]api.Part{at(7+i, 0, 0)})
			}
			l[15] = last
		}
	}
	parts := func(glyph int, p ...api.Part) func(l []string) {
		return func(l []string) {
			var e api.Errno
			if l[glyph], e = comp.Make(p); e != api.OK {
				t.Fatal(e)
			}
		}
	}
	without := func(tag string) func(by map[string]string) {
		return func(by map[string]string) { delete(by, tag) }
	}
	cut := func(tag string, n int) func(by map[string]string) {
		return func(by map[string]string) {
			if len(by[tag]) >= n {
				by[tag] = by[tag][:len(by[tag])-n]
			}
		}
	}
	set := func(tag string, at int, text string) func(by map[string]string) {
		return func(by map[string]string) {
			if len(by[tag]) >= at+len(text) {
				by[tag] = put(by[tag], at, text)
			}
		}
	}
	return []fault{
		{name: "no bytes", order: 0, e: api.ErrEnd, bytes: func(s string) string { return "" }},
		{name: "too many bytes", order: 0, e: api.ErrLong, bytes: func(s string) string { return s + strings.Repeat("\x00", 1<<20) }},
		{name: "the beginning", order: 0, e: api.ErrForm, bytes: func(s string) string { return "?" + s[1:] }},
		{name: "a sum", order: 0, e: api.ErrSum, bytes: func(s string) string { return s[:16] + "????" + s[20:] }},
		{name: "no head", order: 1, e: api.ErrNone, tables: without("head")},
		{name: "head ends", order: 1, e: api.ErrEnd, tables: cut("head", 1)},
		{name: "head's beginning", order: 1, e: api.ErrForm, tables: set("head", 0, "?")},
		{name: "no maxp", order: 2, e: api.ErrNone, tables: without("maxp")},
		{name: "maxp ends", order: 2, e: api.ErrEnd, tables: cut("maxp", 1)},
		{name: "too many glyphs", order: 2, e: api.ErrLong, tables: set("maxp", 4, "\x04\x01")},
		{name: "no hhea", order: 3, e: api.ErrNone, tables: without("hhea")},
		{name: "hhea ends", order: 3, e: api.ErrEnd, tables: cut("hhea", 1)},
		{name: "no metrics", order: 3, e: api.ErrForm, tables: set("hhea", 34, "\x00\x00")},
		{name: "no hmtx", order: 4, e: api.ErrNone, tables: without("hmtx")},
		{name: "hmtx ends", order: 4, e: api.ErrEnd, tables: cut("hmtx", 1)},
		{name: "no glyf", order: 5, e: api.ErrNone, tables: without("glyf")},
		{name: "no loca", order: 6, e: api.ErrNone, tables: without("loca")},
		{name: "loca ends", order: 6, e: api.ErrEnd, tables: cut("loca", 1)},
		{name: "loca falls", order: 6, e: api.ErrForm, tables: set("loca", 0, "\x00\x00\x00\x28\x00\x00\x00\x20")},
		{name: "loca is beyond glyf", order: 6, e: api.ErrForm, tables: cut("glyf", 1)},
		{name: "a glyph ends", order: 7, e: api.ErrEnd, glyphs: func(l []string) { l[5] = "\x00\x01" }},
		{name: "a part's bit", order: 7, e: api.ErrForm, glyphs: func(l []string) { l[5] = "\xff\xff........\x00\x00\x00\x00\x00\x00" }},
		{name: "too many contours", order: 7, e: api.ErrLong, glyphs: func(l []string) { l[5] = "\x7f\xff........" }},
		{name: "a point too far off", order: 7, e: api.ErrOver, glyphs: func(l []string) { l[5] = "\x00\x01........\x00\x00\x00\x00\x21\x80\x00" }},
		{name: "a loop", order: 8, e: api.ErrLoop, glyphs: parts(0, at(0, 0, 0))},
		{name: "a part that is moved too far", order: 8, e: api.ErrOver, glyphs: parts(1, at(2, 32767, 0))},
		{name: "too deep", order: 8, e: api.ErrDeep, glyphs: tower("")},
		{name: "no cmap", order: 9, e: api.ErrNone, tables: without("cmap")},
		{name: "cmap ends", order: 9, e: api.ErrEnd, tables: func(by map[string]string) { by["cmap"] = "\x00\x00\x00" }},
		{name: "cmap's beginning", order: 9, e: api.ErrForm, tables: set("cmap", 0, "?")},
		{name: "no row that counts", order: 9, e: api.ErrNone, tables: set("cmap", 5, "?")},
		{name: "a glyph that isn't there", order: 9, e: api.ErrForm, tables: set("cmap", 36, "\x00\x00\x00\x10")},
	}
}

// with is the bytes of a font with some of these faults.
func with(t *testing.T, l ...fault) string {
	t.Helper()
	h, widths, shapes, pairs := some()
	h.Glyphs, h.Long = 16, true
	for range 10 {
		widths, shapes = append(widths, 700), append(shapes, api.Shape{})
	}
	p := wrapped(t, h, widths, shapes, pairs)
	for _, f := range l {
		if f.glyphs != nil {
			f.glyphs(p.glyphs)
		}
	}
	p.lay()
	for _, f := range l {
		if f.tables != nil {
			f.tables(p.by)
		}
	}
	s := p.bytes(t)
	for _, f := range l {
		if f.bytes != nil {
			s = f.bytes(s)
		}
	}
	return s
}

// expectNew holds New against an error that is told in the test, and against the chapter's words.
func expectNew(t *testing.T, name, s string, want api.Errno) {
	t.Helper()
	if e := checkNew(t, s); e != want {
		t.Errorf("%s: %d; want %d", name, e, want)
	}
}

// Which error is answered, of no fault, of one, and of any two.
func TestNewOrder(t *testing.T) {
	expectNew(t, "none", with(t), api.OK)
	l := faults(t)
	for _, f := range l {
		expectNew(t, f.name, with(t, f), f.e)
		for _, g := range l {
			if f.order < g.order {
				expectNew(t, f.name+", "+g.name, with(t, f, g), f.e)
				expectNew(t, g.name+", "+f.name, with(t, g, f), f.e)
			}
		}
	}
}

// Of several glyphs whose outlines can't be told the first one counts.
func TestOutlineOrder(t *testing.T) {
	h := api.Head{Em: 1000, Glyphs: 12, Metrics: 1}
	widths := make([]int, 12)
	loop, over := of(at(1, 0, 0)), of(at(3, -32768, 0))
	build := func(shapes ...api.Shape) string {
		for len(shapes) < 12 {
			shapes = append(shapes, api.Shape{})
		}
		s, e := checkMake(t, h, widths, shapes, nil)
		if e != api.OK {
			t.Fatal(e)
		}
		return s
	}
	none, far := api.Shape{}, dot(-1, 0)
	tower := []api.Shape{none, none, none}
	for i := range 8 {
		tower = append(tower, of(at(4+i, 0, 0)))
	}
	expectNew(t, "none", build(), api.OK)
	expectNew(t, "itself", build(none, loop), api.ErrLoop)
	expectNew(t, "one with a loop in it, ahead of the loop", build(of(at(1, 0, 0)), loop), api.ErrLoop)
	expectNew(t, "over", build(none, none, over, far), api.ErrOver)
	expectNew(t, "a loop ahead of over", build(none, loop, over, far), api.ErrLoop)
	expectNew(t, "over ahead of a loop", build(over, loop, none, far), api.ErrOver)
	expectNew(t, "over in one that has the loop behind it", build(of(at(3, -32768, 0), at(1, 0, 0)), loop, none, far), api.ErrOver)
	expectNew(t, "a loop in one that is over behind it", build(of(at(1, 0, 0), at(3, -32768, 0)), loop, none, far), api.ErrLoop)
	expectNew(t, "eight deep", build(tower...), api.OK)
	tower[2] = of(at(3, 0, 0))
	expectNew(t, "nine deep", build(tower...), api.ErrDeep)
	tower[1] = of(at(1, 0, 0))
	expectNew(t, "nine deep, behind a loop", build(tower...), api.ErrLoop)
	many := of(slices.Repeat([]api.Part{at(1, 0, 0)}, 64)...)
	expectNew(t, "as many parts as may be gone to", build(many, of(slices.Repeat([]api.Part{at(2, 0, 0)}, 63)...)), api.OK)
	expectNew(t, "more", build(many, of(slices.Repeat([]api.Part{at(2, 0, 0)}, 64)...)), api.ErrLong)
	half := api.Shape{Contours: [][]api.Point{make([]api.Point, 2048)}}
	expectNew(t, "as many points as may be", build(of(at(1, 0, 0), at(1, 0, 0)), half), api.OK)
	expectNew(t, "one more point", build(of(at(1, 0, 0), at(1, 0, 0), at(2, 0, 0)), half, dot(0, 0)), api.ErrLong)
}

// Each table gone, longer, or shorter; other tables beside.
func TestTables(t *testing.T) {
	h, widths, shapes, pairs := some()
	base := func() parcel {
		p := wrapped(t, h, widths, shapes, pairs)
		p.lay()
		return p
	}
	expectNew(t, "all", base().bytes(t), api.OK)
	for tag, data := range base().by {
		p := base()
		delete(p.by, tag)
		expectNew(t, "no "+tag, p.bytes(t), api.ErrNone)
		p = base()
		p.by[tag] = data + "more bytes"
		expectNew(t, "more of "+tag, p.bytes(t), api.OK)
		p.by[tag] = ""
		short := api.ErrEnd
		if tag == "glyf" {
			short = api.ErrForm // of loca, whose places are beyond it
		}
		expectNew(t, "nothing of "+tag, p.bytes(t), short)
		for n := range data {
			p.by[tag] = data[:n]
			if e := checkNew(t, p.bytes(t)); e == api.OK {
				t.Errorf("%d bytes of %s", n, tag)
			}
		}
	}
	p := base()
	for _, tag := range []string{"    ", "OS/2", "glyg", "Head", "name", "zzzz", "~~~~"} {
		p.by[tag] = "any"
	}
	expectNew(t, "others", p.bytes(t), api.OK)
	for i := range 64 - len(p.by) {
		p.by[fmt.Sprintf("x%03d", i)] = ""
	}
	expectNew(t, "as many as may be", p.bytes(t), api.OK)
	if s := p.bytes(t); len(p.by) != 64 || checkNew(t, "true"+s[4:]) != api.OK {
		t.Errorf("%d tables", len(p.by))
	}
}

// Each byte of each table turned into some others, and each byte of a font.
func TestEachByte(t *testing.T) {
	for _, isLong := range []bool{false, true} {
		h, widths, shapes, pairs := some()
		h.Long = isLong
		p := wrapped(t, h, widths, shapes, pairs)
		p.lay()
		seen := map[api.Errno]int{}
		for tag, data := range p.by {
			for i := range data {
				for _, b := range []byte{0, 1, 2, 3, 4, 5, 6, 8, 16, 32, 49, 65, 127, 128, 255} {
					p.by[tag] = put(data, i, string([]byte{b}))
					seen[checkNew(t, p.bytes(t))]++
				}
			}
			p.by[tag] = data
		}
		for _, e := range []api.Errno{api.OK, api.ErrEnd, api.ErrForm, api.ErrLong, api.ErrNone, api.ErrLoop, api.ErrOver} {
			if seen[e] == 0 {
				t.Errorf("no error %d: %v", e, seen)
			}
		}
		s := p.bytes(t)
		for i := range s {
			for _, b := range []byte{0, 1, 4, 31, 32, 64, 127, 255} {
				checkNew(t, put(s, i, string([]byte{b})))
			}
			if e := checkNew(t, s[:i]); e == api.OK && i < len(s)-3 {
				t.Errorf("%d bytes", i)
			}
		}
	}
}

// The whole document's example: a byte of a table that is another one, but of the four bytes of head that no sum counts.
func TestSums(t *testing.T) {
	h, widths, shapes, pairs := some()
	s, e := font.Make(h, widths, shapes, pairs)
	if e != api.OK {
		t.Fatal(e)
	}
	l, _ := table.Parse(s)
	place := 12 + 16*len(l)
	for _, own := range l {
		for i := range own.Data {
			want := api.ErrSum
			if own.Tag == "head" && i >= 8 && i < 12 {
				want = api.OK
			}
			expectNew(t, own.Tag, put(s, place+i, string([]byte{own.Data[i] ^ 64})), want)
		}
		place += (len(own.Data) + 3) / 4 * 4
	}
	if place != len(s) {
		t.Errorf("%d of %d bytes", place, len(s))
	}
}

// places is where a font's table loca has them.
func places(t *testing.T, s string) []int {
	t.Helper()
	l, _ := table.Parse(s)
	h, _ := head.Parse(l)
	out, e := metric.Places(h, one(l, "loca"), len(one(l, "glyf")))
	if e != api.OK {
		t.Fatal(e)
	}
	return out
}

// A glyph of an odd length has a byte 0 behind it; one of an even length has none.
func TestPad(t *testing.T) {
	h := api.Head{Em: 16, Glyphs: 6, Metrics: 6}
	curve := api.Shape{Contours: [][]api.Point{{{X: 1, On: true}, {X: 1}}}} // 17 bytes
	for _, isLong := range []bool{false, true} {
		h.Long = isLong
		s, e := checkMake(t, h, make([]int, 6), []api.Shape{dot(0, 0), {}, dot(1, 0), curve, of(at(0, 1, 1)), dot(0, 0)}, nil)
		if e != api.OK {
			t.Fatal(e)
		}
		if got := places(t, s); !slices.Equal(got, []int{0, 16, 16, 32, 50, 66, 82}) {
			t.Errorf("%v", got)
		}
		l, _ := table.Parse(s)
		data := one(l, "glyf")
		if data[15] != 0 || data[14] != 49 || data[49] != 0 || data[48] != 1 || data[81] != 0 || len(data) != 82 {
			t.Errorf("%x", data)
		}
	}
}

// Lists of no contours, or of no parts, are none.
func TestEmptyLists(t *testing.T) {
	h := api.Head{Em: 16, Glyphs: 4, Metrics: 1}
	none := api.Shape{Contours: [][]api.Point{}, Parts: []api.Part{}}
	drawn := api.Shape{Contours: dot(1, 2).Contours, Parts: []api.Part{}}
	moved := api.Shape{Contours: [][]api.Point{}, Parts: of(at(1, 3, 4)).Parts}
	s, e := checkMake(t, h, make([]int, 4), []api.Shape{none, drawn, moved, {}}, []api.Pair{})
	if e != api.OK {
		t.Fatal(e)
	}
	plain, e := font.Make(h, make([]int, 4), []api.Shape{{}, dot(1, 2), of(at(1, 3, 4)), {}}, nil)
	if s != plain || e != api.OK {
		t.Errorf("%x, %d; want %x", s, e, plain)
	}
}

// Which part tells of the codes: one of 4, but where a code is above FFFE.
func TestCodes(t *testing.T) {
	h := api.Head{Em: 16, Glyphs: 1024, Metrics: 1}
	widths, shapes := make([]int, 1024), make([]api.Shape, 1024)
	var many, every []api.Pair
	for i := range 4096 {
		many = append(many, api.Pair{Code: 15 * i, Glyph: 1 + i%1023})
		every = append(every, api.Pair{Code: 272 * i, Glyph: 1 + i%1023})
	}
	for _, c := range []struct {
		name  string
		pairs []api.Pair
		begin string
	}{
		{"none", nil, "\x00\x03\x00\x01"},
		{"code 0", []api.Pair{{Code: 0, Glyph: 1}}, "\x00\x03\x00\x01"},
		{"the last glyph", []api.Pair{{Code: 5, Glyph: 1023}}, "\x00\x03\x00\x01"},
		{"FFFD", []api.Pair{{Code: 0xfffd, Glyph: 1}}, "\x00\x03\x00\x01"},
		{"FFFE", []api.Pair{{Code: 65, Glyph: 2}, {Code: 0xfffe, Glyph: 1}}, "\x00\x03\x00\x01"},
		{"FFFF", []api.Pair{{Code: 65, Glyph: 2}, {Code: 0xffff, Glyph: 1}}, "\x00\x03\x00\x0a"},
		{"both", []api.Pair{{Code: 0xfffe, Glyph: 1}, {Code: 0xffff, Glyph: 2}}, "\x00\x03\x00\x0a"},
		{"10000", []api.Pair{{Code: 0x10000, Glyph: 1}}, "\x00\x03\x00\x0a"},
		{"10FFFF", []api.Pair{{Code: 3, Glyph: 4}, {Code: 0x10ffff, Glyph: 1}}, "\x00\x03\x00\x0a"},
		{"as many as may be", many, "\x00\x03\x00\x01"},
		{"as many as may be, far and wide", every, "\x00\x03\x00\x0a"},
	} {
		s, e := checkMake(t, h, widths, shapes, c.pairs)
		if e != api.OK {
			t.Fatalf("%s: %d", c.name, e)
		}
		l, _ := table.Parse(s)
		if got := one(l, "cmap")[4:8]; got != c.begin {
			t.Errorf("%s: %x", c.name, got)
		}
	}
	for _, c := range [][]api.Pair{
		append(slices.Clone(every), api.Pair{Code: 0x10ffff, Glyph: 1}),
		{{Code: 5, Glyph: 1024}}, {{Code: 5, Glyph: 0}}, {{Code: 5, Glyph: -1}}, {{Code: 0x110000, Glyph: 1}}, {{Code: -1, Glyph: 1}},
		{{Code: 5, Glyph: 1}, {Code: 5, Glyph: 1}}, {{Code: 5, Glyph: 1}, {Code: 4, Glyph: 1}},
	} {
		if s, e := checkMake(t, h, widths, shapes, c); s != "" || e != api.ErrArg {
			t.Errorf("%s of %d: %d bytes, %d", brief(c), len(c), len(s), e)
		}
	}
}

// Heads at and about their bounds.
func TestHeads(t *testing.T) {
	for _, n := range append(far, -32769, -32768, -1, 0, 1, 2, 3, 4, 15, 16, 16384, 16385, 32767, 32768) {
		for i, may := range []bool{n >= 16 && n <= 16384, n == 3, n >= 1 && n <= 3, n >= -32768 && n <= 32767, n >= -32768 && n <= 32767, n >= -32768 && n <= 32767} {
			h := api.Head{Em: 1000, Glyphs: 3, Metrics: 2}
			*[]*int{&h.Em, &h.Glyphs, &h.Metrics, &h.Ascent, &h.Descent, &h.Gap}[i] = n
			want := api.ErrArg
			if may {
				want = api.OK
			}
			if _, e := checkMake(t, h, make([]int, 3), make([]api.Shape, 3), nil); e != want {
				t.Errorf("%v: %d", h, e)
			}
		}
	}
	for n := range 1030 {
		if n > 8 && n < 1020 && n%100 != 0 {
			continue
		}
		for m := n - 1; m < n+2; m++ {
			want := api.ErrArg
			if n == m && n >= 1 && n <= 1024 {
				want = api.OK
			}
			if _, e := checkMake(t, api.Head{Em: 16, Glyphs: n, Metrics: 1}, make([]int, n), make([]api.Shape, max(m, 0)), nil); e != want {
				t.Errorf("%d glyphs, %d shapes: %d", n, m, e)
			}
		}
	}
}

// slip is one that may be in what a font is made of, by its place in the chapter's order.
type slip struct {
	name  string
	order int
	e     api.Errno
	do    func(h *api.Head, widths *[]int, shapes *[]api.Shape, pairs *[]api.Pair)
}

// slips is some for each place in the chapter's order.
func slips() []slip {
	heavy := func(n int) func(_ *api.Head, _ *[]int, shapes *[]api.Shape, _ *[]api.Pair) {
		return func(_ *api.Head, _ *[]int, shapes *[]api.Shape, _ *[]api.Pair) {
			for i := range n {
				(*shapes)[2+i] = long(4096, 0)
			}
		}
	}
	return []slip{
		{"the em", 0, api.ErrArg, func(h *api.Head, _ *[]int, _ *[]api.Shape, _ *[]api.Pair) { h.Em = 15 }},
		{"the metrics", 0, api.ErrArg, func(h *api.Head, _ *[]int, _ *[]api.Shape, _ *[]api.Pair) { h.Metrics = 0 }},
		{"one glyph more", 0, api.ErrArg, func(h *api.Head, _ *[]int, _ *[]api.Shape, _ *[]api.Pair) { h.Glyphs++ }},
		{"a shape fewer", 0, api.ErrArg, func(_ *api.Head, _ *[]int, shapes *[]api.Shape, _ *[]api.Pair) { *shapes = (*shapes)[:len(*shapes)-1] }},
		{"a shape more", 0, api.ErrArg, func(_ *api.Head, _ *[]int, shapes *[]api.Shape, _ *[]api.Pair) {
			*shapes = append(*shapes, api.Shape{})
		}},
		{"a contour without points", 0, api.ErrArg, func(_ *api.Head, _ *[]int, shapes *[]api.Shape, _ *[]api.Pair) {
			(*shapes)[59] = api.Shape{Contours: [][]api.Point{{}}}
		}},
		{"a part's glyph", 0, api.ErrArg, func(_ *api.Head, _ *[]int, shapes *[]api.Shape, _ *[]api.Pair) { (*shapes)[58] = of(at(62, 0, 0)) }},
		{"contours and parts", 0, api.ErrArg, func(_ *api.Head, _ *[]int, shapes *[]api.Shape, _ *[]api.Pair) {
			(*shapes)[57] = api.Shape{Contours: corners().Contours, Parts: of(at(0, 0, 0)).Parts}
		}},
		{"a pair's glyph", 0, api.ErrArg, func(_ *api.Head, _ *[]int, _ *[]api.Shape, pairs *[]api.Pair) {
			*pairs = append(*pairs, api.Pair{Code: 70, Glyph: 60})
		}},
		{"pairs that fall", 0, api.ErrArg, func(_ *api.Head, _ *[]int, _ *[]api.Shape, pairs *[]api.Pair) {
			*pairs = append(*pairs, api.Pair{Code: 1, Glyph: 1})
		}},
		{"points too far from each other", 1, api.ErrOver, func(_ *api.Head, _ *[]int, shapes *[]api.Shape, _ *[]api.Pair) {
			(*shapes)[56] = api.Shape{Contours: [][]api.Point{{{X: -32767}, {X: 1}}}}
		}},
		{"a width too few", 2, api.ErrArg, func(_ *api.Head, widths *[]int, _ *[]api.Shape, _ *[]api.Pair) { *widths = (*widths)[1:] }},
		{"a width too great", 2, api.ErrArg, func(_ *api.Head, widths *[]int, _ *[]api.Shape, _ *[]api.Pair) { (*widths)[0] = 65536 }},
		{"a width below 0", 2, api.ErrArg, func(_ *api.Head, widths *[]int, _ *[]api.Shape, _ *[]api.Pair) { (*widths)[0] = -1 }},
		{"a width behind the metrics", 2, api.ErrArg, func(_ *api.Head, widths *[]int, _ *[]api.Shape, _ *[]api.Pair) { (*widths)[3] = 1 }},
		{"places beyond long ones", 3, api.ErrArg, heavy(52)},
		{"places beyond short ones", 3, api.ErrArg, func(h *api.Head, widths *[]int, shapes *[]api.Shape, pairs *[]api.Pair) {
			h.Long = false
			heavy(7)(h, widths, shapes, pairs)
		}},
		{"too many bytes", 4, api.ErrLong, func(h *api.Head, widths *[]int, shapes *[]api.Shape, pairs *[]api.Pair) {
			heavy(51)(h, widths, shapes, pairs)
			(*shapes)[55] = long(600, 0)
		}},
	}
}

// Which error Make answers, of no slip, of one, and of any two.
func TestMakeOrder(t *testing.T) {
	try := func(name string, want api.Errno, l ...slip) {
		t.Helper()
		h := api.Head{Em: 16, Long: true, Glyphs: 60, Metrics: 2}
		widths, shapes, pairs := make([]int, 60), make([]api.Shape, 60), []api.Pair{{Code: 65, Glyph: 59}}
		for _, s := range l {
			s.do(&h, &widths, &shapes, &pairs)
		}
		if s, e := checkMake(t, h, widths, shapes, pairs); e != want || (s == "") != (e != api.OK) {
			t.Errorf("%s: %d bytes, %d; want %d", name, len(s), e, want)
		}
	}
	try("none", api.OK)
	all := slips()
	for _, a := range all {
		try(a.name, a.e, a)
		for _, b := range all {
			// Of places that are too great the bytes can't be merely too many.
			if a.order < b.order && a.order != 3 {
				try(a.name+", "+b.name, a.e, b, a)
			}
		}
	}
}

// The first shape that can't be made counts, ahead of the widths; a point that is as far from the one ahead as may be is fine.
func TestMakeOver(t *testing.T) {
	h := api.Head{Em: 16, Glyphs: 2, Metrics: 2}
	for _, c := range []struct {
		x, y, toX, toY int
		e              api.Errno
	}{
		{-32767, 0, 0, 0, api.OK}, {-32767, 0, 1, 0, api.ErrOver}, {32767, 0, -1, 0, api.OK}, {32767, 0, -2, 0, api.ErrOver},
		{0, -32767, 0, 0, api.OK}, {0, -32767, 0, 1, api.ErrOver}, {0, 32767, 0, -1, api.OK}, {0, 32767, 0, -2, api.ErrOver},
	} {
		s := api.Shape{Contours: [][]api.Point{{{X: c.x, Y: c.y, On: true}, {X: c.toX, Y: c.toY}}}}
		for _, shapes := range [][]api.Shape{{s, {}}, {{}, s}, {of(at(1, 0, 0)), s}} {
			if _, e := checkMake(t, h, make([]int, 2), shapes, nil); e != c.e {
				t.Errorf("%v: %d; want %d", c, e, c.e)
			}
			want := api.ErrArg
			if c.e != api.OK {
				want = c.e
			}
			if _, e := checkMake(t, h, nil, shapes, nil); e != want {
				t.Errorf("%v, and no widths: %d; want %d", c, e, want)
			}
		}
	}
}

// Places up to the greatest that are short, and beyond; fonts of as many bytes as may be, and more.
func TestMakeSizes(t *testing.T) {
	h := api.Head{Em: 16, Glyphs: 60, Metrics: 1}
	build := func(heavy, n, more int) []api.Shape {
		shapes := make([]api.Shape, 60)
		for i := range heavy {
			shapes[i] = long(4096, 0) // 20494 bytes
		}
		shapes[heavy] = long(n, more)
		return shapes
	}
	const n = (131070-6*20494-14)/5 - 1
	for more := range 12 {
		want, size := api.OK, 6*20494+14+5*n+more
		if size > 131070 {
			want = api.ErrArg
		}
		if s, e := checkMake(t, h, make([]int, 60), build(6, n, more), nil); e != want || e == api.OK && places(t, s)[60] != (size+1)/2*2 {
			t.Errorf("%d bytes: %d; want %d", size, e, want)
		}
	}
	h.Long = true
	whole, seen := 0, map[api.Errno]bool{}
	for more := range 40 {
		s, e := checkMake(t, h, make([]int, 60), build(51, 540, more), nil)
		if e != api.OK && e != api.ErrLong || seen[api.ErrLong] && e == api.OK {
			t.Errorf("%d more: %d", more, e)
		}
		seen[e] = true
		whole = max(whole, len(s))
	}
	if whole != 1<<20 || !seen[api.ErrLong] {
		t.Errorf("%d bytes at most, %v", whole, seen)
	}
}

// Fonts with a glyph that has as much as may be, and with many of them.
func TestGreat(t *testing.T) {
	h := api.Head{Em: 16384, Long: true, Glyphs: 1024, Metrics: 1024}
	widths := make([]int, 1024)
	for i := range widths {
		widths[i] = 64 * i
	}
	const glyph = "\x00\x01........\x0f\xff\x00\x00" // one contour of 4096 points
	flags := strings.Repeat("\x39\xff", 16)          // each stands for 256 points, that are where the one ahead is
	p := wrapped(t, h, widths, make([]api.Shape, 1024), nil)
	for i := range p.glyphs {
		p.glyphs[i] = glyph + flags
		if i%3 == 1 {
			p.glyphs[i], _ = comp.Make([]api.Part{at(i-1, i, 0)})
		}
	}
	p.lay()
	f, e := font.New(p.bytes(t))
	if e != api.OK {
		t.Fatal(e)
	}
	for _, i := range []int{0, 1, 2, 511, 512, 1021, 1022, 1023} {
		got, e := f.Outline(i)
		want := api.Point{On: true}
		if i%3 == 1 {
			want.X = i
		}
		if e != api.OK || len(got) != 1 || len(got[0]) != 4096 || got[0][0] != want || got[0][4095] != want {
			t.Errorf("glyph %d: %s, %d", i, brief(got), e)
		}
		if w, e := f.Width(i); w != 64*i || e != api.OK {
			t.Errorf("glyph %d: %d, %d", i, w, e)
		}
	}
	checkNone(t, f, 1024)
}

// anyPart is a part, of a few that differ in much.
func anyPart(r *rand.Rand, glyph int) api.Part {
	p := at(glyph, r.Intn(400)-200, r.Intn(400)-200)
	if r.Intn(3) == 0 {
		p.A, p.B, p.C, p.D = r.Intn(40000)-20000, r.Intn(40000)-20000, r.Intn(40000)-20000, r.Intn(40000)-20000
	}
	if r.Intn(60) == 0 {
		p.DX = 32767
	}
	return p
}

// anyShapes is n shapes; some have parts, most of them without loops.
func anyShapes(r *rand.Rand, n int) []api.Shape {
	l := make([]api.Shape, n)
	for i := range l {
		switch r.Intn(3) {
		case 0:
			for range r.Intn(4) {
				var contour []api.Point
				for range 1 + r.Intn(6) {
					contour = append(contour, api.Point{X: r.Intn(2000) - 1000, Y: r.Intn(2000) - 1000, On: r.Intn(2) == 0})
				}
				l[i].Contours = append(l[i].Contours, contour)
			}
		case 1:
			for range r.Intn(4) {
				glyph := r.Intn(n)
				if left := n - 1 - i; left > 0 && r.Intn(20) > 0 {
					glyph = i + 1 + r.Intn(left)
				}
				l[i].Parts = append(l[i].Parts, anyPart(r, glyph))
			}
		}
	}
	return l
}

// What is made of anything is read to what it was made of, or refused for the first outline that can't be told.
func TestRandom(t *testing.T) {
	r := rand.New(rand.NewSource(17))
	seen := map[api.Errno]int{}
	for range 8000 {
		n := 1 + r.Intn(1+r.Intn(30))
		h := api.Head{Em: 16 + r.Intn(16369), Long: r.Intn(2) == 0, Glyphs: n, Metrics: 1 + r.Intn(n), Ascent: r.Intn(65536) - 32768, Descent: r.Intn(65536) - 32768, Gap: r.Intn(65536) - 32768}
		var widths []int
		for i := range n {
			widths = append(widths, r.Intn(65536))
			if i >= h.Metrics {
				widths[i] = widths[h.Metrics-1]
			}
		}
		var pairs []api.Pair
		code, step := 0, 1<<r.Intn(17)
		for n > 1 && r.Intn(20) > 0 && code <= api.MaxCode {
			pairs = append(pairs, api.Pair{Code: code, Glyph: 1 + r.Intn(n-1)})
			code += 1 + r.Intn(step)
		}
		s, e := checkMake(t, h, widths, anyShapes(r, n), pairs)
		if e != api.OK {
			t.Fatal(e)
		}
		seen[checkNew(t, s)]++
	}
	for _, e := range []api.Errno{api.OK, api.ErrLoop, api.ErrOver} {
		if seen[e] == 0 {
			t.Errorf("no error %d: %v", e, seen)
		}
	}
}

// What is answered is the caller's own.
func TestOwn(t *testing.T) {
	s, e := font.Make(some())
	if e != api.OK {
		t.Fatal(e)
	}
	want, _ := read(s)
	f, _ := font.New(s)
	for glyph := range want.outlines {
		got, _ := f.Outline(glyph)
		for i := range got {
			full := got[i][:cap(got[i])]
			for j := range full {
				full[j] = api.Point{X: 9999 + i, Y: j}
			}
		}
		for i := range got {
			for j, p := range got[i] {
				if p != (api.Point{X: 9999 + i, Y: j}) {
					t.Fatalf("glyph %d: contours %d share memory", glyph, i)
				}
			}
		}
		clear(got[:cap(got)])
		edges, _ := f.Edges(glyph, 7)
		clear(edges[:cap(edges)])
	}
	pairs := f.Pairs()
	clear(pairs[:cap(pairs)])
	check(t, f, want)
	other, _ := font.New(s)
	check(t, other, want)
}

// What is handed in isn't changed, and not kept.
func TestHandedIn(t *testing.T) {
	h, widths, shapes, pairs := some()
	s, e := font.Make(h, widths, shapes, pairs)
	_, keptWidths, keptShapes, keptPairs := some()
	if e != api.OK || !slices.Equal(widths, keptWidths) || !slices.Equal(pairs, keptPairs) {
		t.Fatalf("%d, %v, %v", e, widths, pairs)
	}
	for i := range shapes {
		if !same(shapes[i].Contours, keptShapes[i].Contours) || !slices.Equal(shapes[i].Parts, keptShapes[i].Parts) {
			t.Fatalf("shape %d: %v", i, shapes[i])
		}
	}
	clear(widths)
	clear(pairs)
	clear(shapes)
	if again, e := font.Make(some()); again != s || e != api.OK {
		t.Fatalf("%d", e)
	}
	// Lists with room behind them are not written to.
	room := append(make([]int, 0, 20), keptWidths...)
	roomPairs := append(make([]api.Pair, 0, 20), keptPairs...)
	if _, e := font.Make(h, room, keptShapes, roomPairs); e != api.OK {
		t.Fatal(e)
	}
	for _, n := range room[len(room):cap(room)] {
		if n != 0 {
			t.Fatal(n)
		}
	}
	for _, p := range roomPairs[len(roomPairs):cap(roomPairs)] {
		if p != (api.Pair{}) {
			t.Fatal(p)
		}
	}
}
