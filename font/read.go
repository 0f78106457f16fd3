package font

import (
	"pochoir/api"
	"pochoir/cmap"
	"pochoir/flat"
	"pochoir/metric"
	"pochoir/table"
)

// find is the bytes of the table of a tag. ErrNone: there is none.
func find(l []api.Table, tag string) (string, api.Errno) {
	data, there := table.Find(l, tag)
	if !there {
		return "", api.ErrNone
	}
	return data, api.OK
}

// readWidths is the width of each glyph.
func readWidths(l []api.Table, h api.Head) ([]int, api.Errno) {
	hmtx, e := find(l, "hmtx")
	if e != api.OK {
		return nil, e
	}
	return metric.Widths(h, hmtx)
}

// readOutlines is the outline of each glyph.
func readOutlines(l []api.Table, h api.Head) ([][][]api.Point, api.Errno) {
	data, e := find(l, "glyf")
	if e != api.OK {
		return nil, e
	}
	loca, e := find(l, "loca")
	if e != api.OK {
		return nil, e
	}
	places, e := metric.Places(h, loca, len(data))
	if e != api.OK {
		return nil, e
	}
	shapes, e := flat.Parse(data, places)
	if e != api.OK {
		return nil, e
	}
	return outlines(shapes)
}

// outlines is the outline of each of a font's shapes, or the error of the first one that can't be told.
func outlines(shapes []api.Shape) ([][][]api.Point, api.Errno) {
	var out [][][]api.Point
	for glyph := range shapes {
		outline, e := flat.Outline(only(shapes, glyph), glyph)
		if e != api.OK {
			return nil, e
		}
		out = append(out, outline)
	}
	return out, api.OK
}

// only is the shapes that a glyph is put together of, each in its place, and nothing in all other places. A glyph's outline hangs on no others, but all shapes that are handed over are looked at for it, and a few bytes may tell of thousands of points in each of a thousand shapes.
func only(shapes []api.Shape, glyph int) []api.Shape {
	out := make([]api.Shape, len(shapes))
	met := make([]bool, len(shapes))
	met[glyph] = true
	open := []int{glyph}
	for len(open) > 0 {
		next := open[0]
		open = open[1:]
		out[next] = shapes[next]
		for _, p := range shapes[next].Parts {
			if !met[p.Glyph] {
				met[p.Glyph] = true
				open = append(open, p.Glyph)
			}
		}
	}
	return out
}

// readPairs is all code points that have a glyph, each with it.
func readPairs(l []api.Table, h api.Head) ([]api.Pair, api.Errno) {
	data, e := find(l, "cmap")
	if e != api.OK {
		return nil, e
	}
	return cmap.Parse(data, h.Glyphs)
}
