package edge_test

import (
	"math/big"
	"slices"

	"pochoir/api"
)

// What the tests hold the package against: the chapter's words.

// dot is a point of a contour's way.
type dot struct {
	x, y int
	on   bool
}

// way is a contour's points, and those in the middle, in order from the contour's first point on, and where in it the way begins.
func way(contour []api.Point, px int) (out []dot, begin int) {
	begin = -1
	for i, p := range contour {
		if p.On && begin < 0 {
			begin = len(out)
		}
		out = append(out, dot{2 * px * p.X, 2 * px * p.Y, p.On})
		next := contour[0]
		if i+1 < len(contour) {
			next = contour[i+1]
		}
		if !p.On && !next.On {
			out = append(out, dot{(2*px*p.X + 2*px*next.X) / 2, (2*px*p.Y + 2*px*next.Y) / 2, true})
		}
	}
	if begin < 0 {
		begin = len(out) - 1
	}
	return out, begin
}

// edges is what Edges must answer.
func edges(l [][]api.Point, px int) ([]api.Edge, api.Errno) {
	if !mayContours(l) || px < 1 || px > 128 {
		return nil, api.ErrArg
	}
	var out []api.Edge
	for place, contour := range l {
		dots, begin := way(contour, px)
		round := slices.Concat(dots[begin:], dots[:begin], dots[begin:begin+1])
		from := round[0]
		var off []dot
		for _, d := range round[1:] {
			if !d.on {
				off = append(off, d)
				continue
			}
			e := api.Edge{Contour: place, A: api.Pt{X: from.x, Y: from.y}, C: api.Pt{X: d.x, Y: d.y}}
			for _, b := range off {
				e.Quad, e.B = true, api.Pt{X: b.x, Y: b.y}
			}
			if slices.ContainsFunc(points(e), func(p api.Pt) bool { return p.X != e.A.X || p.Y != e.A.Y }) {
				out = append(out, e)
			}
			from, off = d, nil
		}
	}
	return out, api.OK
}

// mayContours is what layer 13 says of contours.
func mayContours(l [][]api.Point) bool {
	for _, c := range l {
		if len(c) == 0 {
			return false
		}
	}
	all := slices.Concat(l...)
	for _, p := range all {
		for _, n := range []int{p.X, p.Y} {
			if n > 32767 || n < -32767 {
				return false
			}
		}
	}
	return len(all) <= 4096 && len(l) <= 256
}

// points is the points of an edge.
func points(e api.Edge) []api.Pt {
	if e.Quad {
		return []api.Pt{e.A, e.B, e.C}
	}
	return []api.Pt{e.A, e.C}
}

// box is what Box must answer.
func box(l []api.Edge) (low, high api.Pt, there bool) {
	var xs, ys []int
	for _, e := range l {
		for _, p := range points(e) {
			xs, ys = append(xs, p.X), append(ys, p.Y)
		}
	}
	if len(xs) == 0 {
		return low, high, false
	}
	slices.Sort(xs)
	slices.Sort(ys)
	end := len(xs) - 1
	return api.Pt{X: xs[0], Y: ys[0]}, api.Pt{X: xs[end], Y: ys[end]}, true
}

// closed is what Closed must answer.
func closed(l []api.Edge) bool {
	for len(l) > 0 {
		n := 1
		for n < len(l) && l[n].Contour == l[0].Contour {
			n++
		}
		for i, e := range l[:n] {
			if next := l[(i+1)%n]; e.C.X != next.A.X || e.C.Y != next.A.Y {
				return false
			}
		}
		l = l[n:]
	}
	return true
}

// may is what May must answer.
func may(l []api.Edge) bool {
	for _, e := range l {
		some := false
		for _, p := range points(e) {
			some = some || p.X != e.A.X || p.Y != e.A.Y
			for _, n := range []int{p.X, p.Y} {
				if new(big.Int).Abs(big.NewInt(int64(n))).Cmp(big.NewInt(33554432)) > 0 {
					return false
				}
			}
		}
		if !some || !e.Quad && (e.B.X != 0 || e.B.Y != 0) {
			return false
		}
	}
	return closed(l) && len(l) <= 8192
}
