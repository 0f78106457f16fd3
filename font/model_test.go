package font_test

import (
	"pochoir/api"
	"pochoir/cmap"
	"pochoir/comp"
	"pochoir/flat"
	"pochoir/glyf"
	"pochoir/head"
	"pochoir/metric"
	"pochoir/table"
)

// What the tests hold the package against: the chapter's words, with what each table may be left to the layers below.

// told is all that is read of a font.
type told struct {
	head     api.Head
	widths   []int
	outlines [][][]api.Point
	pairs    []api.Pair
}

// need panics with an error that the one who asked for an answer catches.
func need(e api.Errno) {
	if e != api.OK {
		panic(e)
	}
}

// one is the table of a tag, which must be there.
func one(l []api.Table, tag string) string {
	for _, t := range l {
		if t.Tag == tag {
			return t.Data
		}
	}
	panic(api.ErrNone)
}

// read is what must be read of bytes.
func read(s string) (out told, e api.Errno) {
	defer func() {
		if r := recover(); r != nil {
			out, e = told{}, r.(api.Errno)
		}
	}()
	l, e := table.Parse(s)
	need(e)
	out.head, e = head.Parse(l)
	need(e)
	out.widths, e = metric.Widths(out.head, one(l, "hmtx"))
	need(e)
	data := one(l, "glyf")
	places, e := metric.Places(out.head, one(l, "loca"), len(data))
	need(e)
	shapes, e := flat.Parse(data, places)
	need(e)
	for glyph := range shapes {
		outline, e := flat.Outline(shapes, glyph)
		need(e)
		out.outlines = append(out.outlines, outline)
	}
	out.pairs, e = cmap.Parse(one(l, "cmap"), out.head.Glyphs)
	need(e)
	return out, api.OK
}

// made is what Make must answer.
func made(h api.Head, widths []int, shapes []api.Shape, pairs []api.Pair) (s string, e api.Errno) {
	defer func() {
		if r := recover(); r != nil {
			s, e = "", r.(api.Errno)
		}
	}()
	if !head.May(h) || len(shapes) != h.Glyphs || !flat.May(shapes) || !cmap.May(pairs, h.Glyphs) {
		return "", api.ErrArg
	}
	data, places := "", []int{0}
	for _, shape := range shapes {
		text, e := glyf.Make(shape.Contours)
		if len(shape.Contours) == 0 && len(shape.Parts) != 0 {
			text, e = comp.Make(shape.Parts)
		}
		need(e)
		data += text
		for len(data)%2 == 1 {
			data += "\x00"
		}
		places = append(places, len(data))
	}
	hmtx, e := metric.Hmtx(h, widths)
	need(e)
	loca, e := metric.Loca(h, places)
	need(e)
	above := false
	for _, p := range pairs {
		above = above || p.Code == 0xffff || p.Code >= 0x10000
	}
	codes, e := cmap.Make(pairs, above)
	need(e)
	own, e := head.Make(h)
	need(e)
	return table.Make([]api.Table{
		{Tag: "cmap", Data: codes}, {Tag: "glyf", Data: data}, {Tag: "head", Data: one(own, "head")}, {Tag: "hhea", Data: one(own, "hhea")},
		{Tag: "hmtx", Data: hmtx}, {Tag: "loca", Data: loca}, {Tag: "maxp", Data: one(own, "maxp")},
	})
}

// found is the glyph of a code.
func found(l []api.Pair, code int) int {
	for _, p := range l {
		if p.Code == code {
			return p.Glyph
		}
	}
	return 0
}
