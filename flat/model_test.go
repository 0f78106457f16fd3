package flat_test

import (
	"math"
	"slices"

	"pochoir/api"
	"pochoir/comp"
	"pochoir/glyf"
)

// What the tests hold the package against: the chapter's words, with the bytes of one glyph left to layers 13 and 14.

// need panics with an error that the one who asked for an answer catches.
func need(ok bool, e api.Errno) {
	if !ok {
		panic(e)
	}
}

// may is what May must answer.
func may(l []api.Shape) bool {
	for _, s := range l {
		points := 0
		for _, c := range s.Contours {
			if len(c) == 0 {
				return false
			}
			for _, p := range c {
				if max(p.X, -p.X, p.Y, -p.Y) > 32767 || p.X == math.MinInt || p.Y == math.MinInt {
					return false
				}
			}
			points += len(c)
		}
		for _, p := range s.Parts {
			if p.Glyph < 0 || p.Glyph >= len(l) {
				return false
			}
			for _, n := range []int{p.DX, p.DY, p.A, p.B, p.C, p.D} {
				if n != int(int16(n)) {
					return false
				}
			}
		}
		if points > 4096 || len(s.Contours) > 256 || len(s.Parts) > 64 || len(s.Contours) > 0 && len(s.Parts) > 0 {
			return false
		}
	}
	return len(l) > 0 && len(l) <= 1024
}

// frame is a glyph that is gone through: the part as which it is met, which of its own parts is the next one, and its outline so far.
type frame struct {
	by   api.Part
	next int
	out  [][]api.Point
}

// gone is a glyph's outline and its depth; where only the depth is asked for, no point is moved or counted.
func gone(l []api.Shape, glyph int, whole bool) (out [][]api.Point, depth int, e api.Errno) {
	defer func() {
		if r := recover(); r != nil {
			out, depth, e = nil, 0, r.(api.Errno)
		}
	}()
	need(may(l) && glyph >= 0 && glyph < len(l), api.ErrArg)
	stack := []frame{{by: api.Part{Glyph: glyph}}}
	visits := 0
	for {
		top := &stack[len(stack)-1]
		shape := l[top.by.Glyph]
		if top.next < len(shape.Parts) {
			p := shape.Parts[top.next]
			top.next++
			need(!slices.ContainsFunc(stack, func(f frame) bool { return f.by.Glyph == p.Glyph }), api.ErrLoop)
			need(len(stack) < 9, api.ErrDeep)
			visits++
			need(visits < 4097, api.ErrLong)
			depth = max(depth, len(stack))
			stack = append(stack, frame{by: p})
			continue
		}
		if len(shape.Parts) == 0 {
			top.out = shape.Contours
		}
		if len(stack) == 1 {
			return top.out, depth, api.OK
		}
		stack = stack[:len(stack)-1]
		if up := &stack[len(stack)-1]; whole {
			up.out = append(up.out, moved(top.out, top.by)...)
			need(len(up.out) < 257 && len(slices.Concat(up.out...)) < 4097, api.ErrLong)
		}
	}
}

// moved is contours, moved by a part.
func moved(l [][]api.Point, by api.Part) [][]api.Point {
	var out [][]api.Point
	for _, c := range l {
		var row []api.Point
		for _, p := range c {
			p.X, p.Y = become(by.A, p.X, by.C, p.Y)+by.DX, become(by.B, p.X, by.D, p.Y)+by.DY
			need(max(p.X, -p.X, p.Y, -p.Y) <= 32767, api.ErrOver)
			row = append(row, p)
		}
		out = append(out, row)
	}
	return out
}

// become is a times x and b times y, by 2^14, rounded to the nearest whole number, of two as near the greater one: all of it fits into a float.
func become(a, x, b, y int) int {
	return int(math.Floor((float64(a)*float64(x)+float64(b)*float64(y))/16384 + 0.5))
}

// parsed is what Parse must answer.
func parsed(data string, places []int) ([]api.Shape, api.Errno) {
	if len(places) < 2 || len(places) > 1025 || !slices.IsSorted(places) || places[0] < 0 || places[len(places)-1] > len(data) {
		return nil, api.ErrArg
	}
	var out []api.Shape
	for i := range len(places) - 1 {
		s := data[places[i]:places[i+1]]
		var shape api.Shape
		var e api.Errno
		if len(s) >= 2 && s[0] >= 128 {
			shape.Parts, e = comp.Parse(s, len(places)-1)
		} else {
			shape.Contours, e = glyf.Parse(s)
		}
		if e != api.OK {
			return nil, e
		}
		out = append(out, shape)
	}
	return out, api.OK
}
