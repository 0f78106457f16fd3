package flat

import (
	"slices"

	"pochoir/api"
	"pochoir/comp"
)

// walk goes through a glyph's parts, and through theirs.
type walk struct {
	shapes []api.Shape
	in     []int // the glyphs in which it is, the outermost one first
	visits int   // how many parts it has gone to
}

// each goes to a glyph's parts, one by one.
func (w *walk) each(glyph int, visit func(p api.Part) api.Errno) api.Errno {
	w.in = append(w.in, glyph)
	for _, p := range w.shapes[glyph].Parts {
		if e := w.enter(p.Glyph); e != api.OK {
			return e
		}
		if e := visit(p); e != api.OK {
			return e
		}
	}
	w.in = w.in[:len(w.in)-1]
	return api.OK
}

// enter tells whether a part with such a glyph may be gone to from where the walk is.
func (w *walk) enter(glyph int) api.Errno {
	if slices.Contains(w.in, glyph) {
		return api.ErrLoop
	}
	if len(w.in) > api.MaxDepth {
		return api.ErrDeep
	}
	if w.visits == api.MaxVisits {
		return api.ErrLong
	}
	w.visits++
	return api.OK
}

// depth is how many parts at most stand one in another in a glyph.
func (w *walk) depth(glyph int) (int, api.Errno) {
	deepest := 0
	e := w.each(glyph, func(p api.Part) api.Errno {
		n, e := w.depth(p.Glyph)
		deepest = max(deepest, n+1)
		return e
	})
	if e != api.OK {
		return 0, e
	}
	return deepest, api.OK
}

// outline is a glyph's outline, in new memory.
func (w *walk) outline(glyph int) ([][]api.Point, api.Errno) {
	out := copied(w.shapes[glyph].Contours)
	e := w.each(glyph, func(p api.Part) api.Errno {
		inner, e := w.outline(p.Glyph)
		if e != api.OK {
			return e
		}
		if e := move(inner, p); e != api.OK {
			return e
		}
		out = append(out, inner...)
		return room(out)
	})
	if e != api.OK {
		return nil, e
	}
	return out, api.OK
}

// copied is the same contours, in new memory.
func copied(l [][]api.Point) [][]api.Point {
	var out [][]api.Point
	for _, contour := range l {
		out = append(out, slices.Clone(contour))
	}
	return out
}

// move moves each point of contours by a part.
func move(l [][]api.Point, by api.Part) api.Errno {
	for _, contour := range l {
		for i, p := range contour {
			x, y, e := comp.Move(by, p.X, p.Y)
			if e != api.OK {
				return e
			}
			contour[i] = api.Point{X: x, Y: y, On: p.On}
		}
	}
	return api.OK
}

// room is ErrLong if an outline has too many contours, or too many points.
func room(l [][]api.Point) api.Errno {
	points := 0
	for _, contour := range l {
		points += len(contour)
	}
	if len(l) > api.MaxContours || points > api.MaxPoints {
		return api.ErrLong
	}
	return api.OK
}
