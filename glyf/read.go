package glyf

import (
	"pochoir/api"
	"pochoir/octet"
)

// readContours is n contours, one or more, that are told from the places of their last points on.
func readContours(r *octet.Reader, n int) ([][]api.Point, api.Errno) {
	places, e := readPlaces(r, n)
	if e != api.OK {
		return nil, e
	}
	commands := r.U16()
	r.Skip(int(commands))
	if r.Err() != api.OK {
		return nil, api.ErrEnd
	}
	points, e := readPoints(r, places[n-1]+1)
	if e != api.OK {
		return nil, e
	}
	return split(points, places), api.OK
}

// readPlaces is where each contour's last point is. ErrEnd: the places aren't all there; ErrForm: one isn't above the one ahead; ErrLong: there are too many points.
func readPlaces(r *octet.Reader, n int) ([]int, api.Errno) {
	places := make([]int, n)
	for i := range places {
		places[i] = int(r.U16())
	}
	if r.Err() != api.OK {
		return nil, api.ErrEnd
	}
	ahead := -1
	for _, p := range places {
		if p <= ahead {
			return nil, api.ErrForm
		}
		ahead = p
	}
	if ahead >= api.MaxPoints {
		return nil, api.ErrLong
	}
	return places, api.OK
}

// readPoints is n points.
func readPoints(r *octet.Reader, n int) ([]api.Point, api.Errno) {
	flags, e := readFlags(r, n)
	if e != api.OK {
		return nil, e
	}
	xs, e := readUnits(r, flags, xByte, xSame)
	if e != api.OK {
		return nil, e
	}
	ys, e := readUnits(r, flags, yByte, ySame)
	if e != api.OK {
		return nil, e
	}
	points := make([]api.Point, n)
	for i, f := range flags {
		points[i] = api.Point{X: xs[i], Y: ys[i], On: f&onOutline != 0}
	}
	return points, api.OK
}

// readFlags is the flags of n points, one for each. ErrEnd: one isn't all there; ErrForm: one that may not be, or that stands for more points than there are.
func readFlags(r *octet.Reader, n int) ([]uint8, api.Errno) {
	var flags []uint8
	for len(flags) < n {
		// One that isn't there is read as 0, in which nothing is wrong.
		f := r.U8()
		if f&never != 0 {
			return nil, api.ErrForm
		}
		times := 1
		if f&further != 0 {
			times += int(r.U8())
		}
		if r.Err() != api.OK {
			return nil, api.ErrEnd
		}
		if times > n-len(flags) {
			return nil, api.ErrForm
		}
		for range times {
			flags = append(flags, f)
		}
	}
	return flags, api.OK
}

// readUnits is the x, or y, of each point, by the two bits of its flag that tell how it is given. ErrEnd: one isn't all there; ErrOver: one is too great, either way.
func readUnits(r *octet.Reader, flags []uint8, short, same uint8) ([]int, api.Errno) {
	units := make([]int, len(flags))
	at := 0
	for i, f := range flags {
		at += readStep(r, f&short != 0, f&same != 0)
		if r.Err() != api.OK {
			return nil, api.ErrEnd
		}
		if !mayUnit(at) {
			return nil, api.ErrOver
		}
		units[i] = at
	}
	return units, api.OK
}

// readStep is how far an x or y is from the one ahead: it has one byte, if it is short, and then same is its sign; else it is the same, or has two bytes.
func readStep(r *octet.Reader, short, same bool) int {
	switch {
	case short && same:
		return int(r.U8())
	case short:
		return -int(r.U8())
	case same:
		return 0
	}
	return int(r.I16())
}

// split is the contours of these points, whose last ones are at these places. Each has memory of its own, so that whoever lengthens one doesn't write into the next one.
func split(points []api.Point, places []int) [][]api.Point {
	contours := make([][]api.Point, len(places))
	from := 0
	for i, last := range places {
		contours[i] = append([]api.Point(nil), points[from:last+1]...)
		from = last + 1
	}
	return contours
}
