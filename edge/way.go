package edge

import (
	"slices"

	"pochoir/api"
)

// stop is a point of a contour's way.
type stop struct {
	at api.Pt
	on bool // the outline
}

// wayOf is the way of a contour that has a point at least, from where it begins on: it begins on the outline, and no two stops off it follow one another.
func wayOf(contour []api.Point, px int) []stop {
	// Of a contour that is nowhere on the outline the first point has the one in the middle ahead of it.
	begin := max(0, slices.IndexFunc(contour, func(p api.Point) bool { return p.On }))
	n := len(contour)
	var way []stop
	for i := range n {
		ahead, p := contour[(begin+i+n-1)%n], contour[(begin+i)%n]
		if !ahead.On && !p.On {
			way = append(way, stop{at: middle(ahead, p, px), on: true})
		}
		// A point is in the middle between it and itself.
		way = append(way, stop{at: middle(p, p, px), on: p.On})
	}
	return way
}

// middle is the point in the middle between two, in fine units: as a unit has an even number of them, nothing is rounded.
func middle(p, q api.Point, px int) api.Pt {
	return api.Pt{X: (p.X + q.X) * px, Y: (p.Y + q.Y) * px}
}

// along is the edges along the way of the contour that has this place, but those whose points are all the same.
func along(way []stop, place int) []api.Edge {
	var out []api.Edge
	for i, s := range way {
		if !s.on {
			continue
		}
		next, second := way[(i+1)%len(way)], way[(i+2)%len(way)]
		e := api.Edge{Contour: place, A: s.at, C: next.at}
		if !next.on {
			e.Quad, e.B, e.C = true, next.at, second.at
		}
		if !isDot(e) {
			out = append(out, e)
		}
	}
	return out
}
