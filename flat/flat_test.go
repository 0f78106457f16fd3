package flat_test

import (
	"fmt"
	"math"
	"math/rand"
	"slices"
	"strings"
	"testing"

	"pochoir/api"
	"pochoir/comp"
	"pochoir/flat"
	"pochoir/glyf"
)

// far are numbers that are far from all bounds, or that are within them once they go round.
var far = []int{math.MinInt, math.MinInt + 1, -1 << 32, 1<<32 + 1, -1 << 16, 1 << 16, 1<<16 + 1, 1 << 31, math.MaxInt - 1, math.MaxInt}

// brief is anything in a text that isn't too long.
func brief(v any) string {
	return fmt.Sprintf("%.300s", fmt.Sprint(v))
}

// same tells whether two lists of contours are the same.
func same(a, b [][]api.Point) bool {
	return slices.EqualFunc(a, b, slices.Equal)
}

// alike tells whether two lists of shapes are the same.
func alike(a, b []api.Shape) bool {
	return slices.EqualFunc(a, b, func(x, y api.Shape) bool {
		return same(x.Contours, y.Contours) && slices.Equal(x.Parts, y.Parts)
	})
}

// checkMay holds May against the chapter's words.
func checkMay(t *testing.T, l []api.Shape) bool {
	t.Helper()
	want := may(l)
	if got := flat.May(l); got != want {
		t.Fatalf("May(%s of %d) = %t; want %t", brief(l), len(l), got, want)
	}
	return want
}

// checkOutline holds Outline and Depth against the chapter's words.
func checkOutline(t *testing.T, l []api.Shape, glyph int) (outline, depth api.Errno) {
	t.Helper()
	want, _, f := gone(l, glyph, true)
	got, e := flat.Outline(l, glyph)
	if e != f || !same(got, want) {
		t.Fatalf("Outline(%s of %d, %d) = %s, %d; want %s, %d", brief(l), len(l), glyph, brief(got), e, brief(want), f)
	}
	if e == api.OK && !glyf.May(got) {
		t.Fatalf("Outline(%s of %d, %d) = %s, which may not be", brief(l), len(l), glyph, brief(got))
	}
	_, deep, h := gone(l, glyph, false)
	n, g := flat.Depth(l, glyph)
	if n != deep || g != h {
		t.Fatalf("Depth(%s of %d, %d) = %d, %d; want %d, %d", brief(l), len(l), glyph, n, g, deep, h)
	}
	return e, g
}

// checkParse holds Parse against the chapter's words.
func checkParse(t *testing.T, data string, places []int) api.Errno {
	t.Helper()
	want, f := parsed(data, places)
	got, e := flat.Parse(data, places)
	if e != f || !alike(got, want) {
		t.Fatalf("Parse(%.300q of %d bytes, %s of %d) = %s, %d; want %s, %d", data, len(data), brief(places), len(places), brief(got), e, brief(want), f)
	}
	if e == api.OK && !flat.May(got) {
		t.Fatalf("Parse(%.300q of %d bytes, %s) = %s, which may not be", data, len(data), brief(places), brief(got))
	}
	return e
}

// expect holds Outline and Depth against errors that are told in the test, and against the chapter's words.
func expect(t *testing.T, name string, l []api.Shape, glyph int, outline, depth api.Errno) {
	t.Helper()
	if e, f := checkOutline(t, l, glyph); e != outline || f != depth {
		t.Errorf("%s: %d and %d; want %d and %d", name, e, f, outline, depth)
	}
}

// expectParse holds Parse against an error that is told in the test, and against the chapter's words.
func expectParse(t *testing.T, name, data string, places []int, want api.Errno) {
	t.Helper()
	if e := checkParse(t, data, places); e != want {
		t.Errorf("%s: %d; want %d", name, e, want)
	}
}

// at is a part that is moved, and not turned.
func at(glyph, dx, dy int) api.Part {
	return api.Part{Glyph: glyph, DX: dx, DY: dy, A: 16384, D: 16384}
}

// of is a shape of parts.
func of(parts ...api.Part) api.Shape {
	return api.Shape{Parts: parts}
}

// plain is a shape of parts that are neither moved nor turned.
func plain(glyphs ...int) api.Shape {
	var s api.Shape
	for _, g := range glyphs {
		s.Parts = append(s.Parts, at(g, 0, 0))
	}
	return s
}

// times is a shape of n parts of one glyph.
func times(n, glyph int) api.Shape {
	return plain(slices.Repeat([]int{glyph}, n)...)
}

// drawn is a shape of n contours of so many points.
func drawn(n, points int) api.Shape {
	var s api.Shape
	for range n {
		s.Contours = append(s.Contours, make([]api.Point, points))
	}
	return s
}

// dot is a shape of one point.
func dot(x, y int, on bool) api.Shape {
	return api.Shape{Contours: [][]api.Point{{{X: x, Y: y, On: on}}}}
}

// tower is n shapes, each but the last one with one part, the shape behind it.
func tower(n int, last api.Shape) []api.Shape {
	var l []api.Shape
	for i := range n - 1 {
		l = append(l, plain(i+1))
	}
	return append(l, last)
}

// corners is a shape of two contours.
func corners() api.Shape {
	return api.Shape{Contours: [][]api.Point{
		{{X: 0, Y: 0, On: true}, {X: 10, Y: 0}, {X: 10, Y: 20, On: true}},
		{{X: 3, Y: 5, On: true}, {X: -7, Y: 9}},
	}}
}

func TestExample(t *testing.T) {
	l := []api.Shape{corners(), of(at(0, 5, 0))}
	want := [][]api.Point{
		{{X: 5, Y: 0, On: true}, {X: 15, Y: 0}, {X: 15, Y: 20, On: true}},
		{{X: 8, Y: 5, On: true}, {X: -2, Y: 9}},
	}
	if got, e := flat.Outline(l, 1); !same(got, want) || e != api.OK {
		t.Errorf("%v, %d", got, e)
	}
	if got, e := flat.Outline(l, 0); !same(got, l[0].Contours) || e != api.OK {
		t.Errorf("%v, %d", got, e)
	}
	for glyph, want := range []int{0, 1} {
		if n, e := flat.Depth(l, glyph); n != want || e != api.OK {
			t.Errorf("%d, %d", n, e)
		}
	}
}

// The whole document's examples: a glyph that has itself as a part, and one that is nine deep.
func TestWholeExample(t *testing.T) {
	expect(t, "itself", []api.Shape{plain(0)}, 0, api.ErrLoop, api.ErrLoop)
	expect(t, "nine deep", tower(10, dot(0, 0, true)), 0, api.ErrDeep, api.ErrDeep)
	expect(t, "eight deep", tower(9, dot(0, 0, true)), 0, api.OK, api.OK)
}

// Outlines and depths, written out.
func TestOutline(t *testing.T) {
	none := api.Shape{}
	for _, c := range []struct {
		name  string
		l     []api.Shape
		glyph int
		depth int
		out   [][]api.Point
	}{
		{"nothing", []api.Shape{none}, 0, 0, nil},
		{"lists without anything", []api.Shape{{Contours: [][]api.Point{}, Parts: []api.Part{}}}, 0, 0, nil},
		{"a part with nothing", []api.Shape{plain(1), none}, 0, 1, nil},
		{"a point", []api.Shape{none, dot(7, -8, true)}, 1, 0, [][]api.Point{{{X: 7, Y: -8, On: true}}}},
		{"a point off the outline", []api.Shape{of(at(1, 1, 2)), dot(7, -8, false)}, 0, 1, [][]api.Point{{{X: 8, Y: -6}}}},
		{"parts in order", []api.Shape{plain(2, 3, 1, 4), dot(1, 0, true), dot(2, 0, true), none, dot(4, 0, true)}, 0, 1,
			[][]api.Point{{{X: 2, On: true}}, {{X: 1, On: true}}, {{X: 4, On: true}}}},
		{"a part twice", []api.Shape{of(at(1, 5, 0), at(1, 0, 6)), dot(1, 1, true)}, 0, 1,
			[][]api.Point{{{X: 6, Y: 1, On: true}}, {{X: 1, Y: 7, On: true}}}},
		{"parts within parts, each behind all of the one ahead", []api.Shape{of(at(1, 1, 0), at(3, 10, 0), at(1, 100, 0)), of(at(2, 1000, 0), at(3, 2000, 0)), dot(0, 2, true), dot(0, 3, true)}, 0, 2,
			[][]api.Point{{{X: 1001, Y: 2, On: true}}, {{X: 2001, Y: 3, On: true}}, {{X: 10, Y: 3, On: true}}, {{X: 1100, Y: 2, On: true}}, {{X: 2100, Y: 3, On: true}}}},
		{"the depth of the first part", []api.Shape{plain(1, 4), plain(2, 4), plain(3), plain(4), none}, 0, 4, nil},
		{"the depth of the last part", []api.Shape{plain(4, 1), plain(4, 2), plain(3), plain(4), none}, 0, 4, nil},
		{"the depth of the part between", []api.Shape{plain(4, 1, 3), plain(4, 2, 4), plain(3), plain(4), none}, 0, 4, nil},
		{"a glyph within others", []api.Shape{plain(4, 1, 3), plain(4, 2, 4), plain(3), plain(4), none}, 2, 2, nil},
		{"the inner one is moved ahead of the outer one", []api.Shape{of(api.Part{Glyph: 1, DX: 1, A: 32767, D: 16384}), of(api.Part{Glyph: 2, DX: 1, A: 8192, D: 16384}), dot(3, 0, true)}, 0, 2,
			[][]api.Point{{{X: 7, On: true}}}},
		{"each move is rounded", []api.Shape{of(api.Part{Glyph: 1, A: 8192, D: 8192}), of(api.Part{Glyph: 2, A: 8192, D: 8192}), dot(5, -5, true)}, 0, 2,
			[][]api.Point{{{X: 2, Y: -1, On: true}}}},
		{"turned twice", []api.Shape{of(api.Part{Glyph: 1, B: 16384, C: -16384}), of(api.Part{Glyph: 2, DX: 1, DY: 2, B: 16384, C: -16384}), dot(5, 7, true)}, 0, 2,
			[][]api.Point{{{X: -7, Y: -6, On: true}}}},
		{"turned to one point", []api.Shape{of(api.Part{Glyph: 1, DX: 4, DY: 5}), {Contours: [][]api.Point{{{X: 1, Y: 2}, {X: 3, Y: 4, On: true}}}}}, 0, 1,
			[][]api.Point{{{X: 4, Y: 5}, {X: 4, Y: 5, On: true}}}},
		{"as far off as may be", []api.Shape{of(at(1, 32766, -32768), at(1, -32768, 32766)), dot(1, 1, true)}, 0, 1,
			[][]api.Point{{{X: 32767, Y: -32767, On: true}}, {{X: -32767, Y: 32767, On: true}}}},
	} {
		if got, e := flat.Outline(c.l, c.glyph); !same(got, c.out) || e != api.OK {
			t.Errorf("%s: Outline = %v, %d; want %v", c.name, got, e, c.out)
		}
		if n, e := flat.Depth(c.l, c.glyph); n != c.depth || e != api.OK {
			t.Errorf("%s: Depth = %d, %d; want %d", c.name, n, e, c.depth)
		}
		checkOutline(t, c.l, c.glyph)
	}
}

// What shapes may be, one fault at a time.
func TestMay(t *testing.T) {
	for _, c := range []struct {
		name string
		l    []api.Shape
		may  bool
	}{
		{"nil", nil, false},
		{"no shapes", []api.Shape{}, false},
		{"a shape with nothing", make([]api.Shape, 1), true},
		{"as many as may be", make([]api.Shape, 1024), true},
		{"one more", make([]api.Shape, 1025), false},
		{"contours", []api.Shape{corners()}, true},
		{"a part, of itself", []api.Shape{plain(0)}, true},
		{"parts of each other", []api.Shape{plain(1), plain(0)}, true},
		{"both", []api.Shape{{Contours: corners().Contours, Parts: plain(1).Parts}, {}}, false},
		{"contours, and a list of no parts", []api.Shape{{Contours: corners().Contours, Parts: []api.Part{}}}, true},
		{"parts, and a list of no contours", []api.Shape{{Contours: [][]api.Point{}, Parts: plain(0).Parts}}, true},
		{"a contour without points", []api.Shape{{Contours: [][]api.Point{{}}}}, false},
		{"a contour without points, and a part", []api.Shape{{Contours: [][]api.Point{{}}, Parts: plain(0).Parts}}, false},
		{"no contour, but nil", []api.Shape{{Contours: [][]api.Point{nil}}}, false},
		{"as many contours as may be", []api.Shape{drawn(256, 1)}, true},
		{"one more contour", []api.Shape{drawn(257, 1)}, false},
		{"as many points as may be", []api.Shape{drawn(1, 4096)}, true},
		{"one more point", []api.Shape{drawn(1, 4097)}, false},
		{"as many of both as may be", []api.Shape{drawn(256, 16), drawn(256, 16)}, true},
		{"as many parts as may be", []api.Shape{times(64, 0)}, true},
		{"one more part", []api.Shape{times(65, 0)}, false},
		{"the last glyph", []api.Shape{{}, plain(2), {}}, true},
		{"one more than the last glyph", []api.Shape{{}, plain(3), {}}, false},
		{"the glyph below the first", []api.Shape{{}, plain(-1), {}}, false},
		{"the second part is one more than the last glyph", []api.Shape{{}, plain(2, 3), {}}, false},
		{"the glyph of highest number, of fewer", append(make([]api.Shape, 1022), plain(1023)), false},
		{"the glyph of highest number", append(make([]api.Shape, 1023), plain(1023)), true},
		{"the last shape has both", append(make([]api.Shape, 9), api.Shape{Contours: drawn(1, 1).Contours, Parts: plain(0).Parts}), false},
		{"the last shape's contours", append(make([]api.Shape, 9), drawn(1, 0)), false},
		{"the last shape's parts", append(make([]api.Shape, 9), plain(10)), false},
	} {
		if got := checkMay(t, c.l); got != c.may {
			t.Errorf("%s: %t", c.name, got)
		}
		for _, glyph := range []int{-1, len(c.l), math.MinInt, math.MaxInt} {
			expect(t, c.name, c.l, glyph, api.ErrArg, api.ErrArg)
		}
		if !c.may {
			for glyph := range c.l {
				expect(t, c.name, c.l, glyph, api.ErrArg, api.ErrArg)
			}
		}
	}
}

// All numbers about the bounds of points and parts.
func TestBounds(t *testing.T) {
	for _, n := range append(far, -32769, -32768, -32767, -1, 0, 1, 2, 32767, 32768) {
		unit, two := n >= -32767 && n <= 32767, n >= -32768 && n <= 32767
		for _, c := range []struct {
			s   api.Shape
			may bool
		}{
			{dot(n, 0, true), unit},
			{dot(0, n, false), unit},
			{of(api.Part{Glyph: n}), n == 0 || n == 1},
			{of(api.Part{DX: n}), two},
			{of(api.Part{DY: n}), two},
			{of(api.Part{A: n}), two},
			{of(api.Part{B: n}), two},
			{of(api.Part{C: n}), two},
			{of(api.Part{D: n}), two},
		} {
			for _, l := range [][]api.Shape{{c.s, {}}, {{}, c.s}} {
				if got := checkMay(t, l); got != c.may {
					t.Errorf("%v: %t", l, got)
				}
				checkOutline(t, l, 0)
				checkOutline(t, l, 1)
			}
		}
	}
}

// Parts that are within themselves, and parts that are only met again.
func TestLoop(t *testing.T) {
	none := api.Shape{}
	for _, c := range []struct {
		name string
		l    []api.Shape
		e    api.Errno
	}{
		{"itself", []api.Shape{plain(0)}, api.ErrLoop},
		{"itself, as the last part", []api.Shape{plain(1, 1, 0), none}, api.ErrLoop},
		{"itself, by another one", []api.Shape{plain(1), plain(0)}, api.ErrLoop},
		{"a part that has itself", []api.Shape{plain(1), plain(1)}, api.ErrLoop},
		{"a part that has the part it is in, not the first", []api.Shape{plain(1), plain(2), plain(1)}, api.ErrLoop},
		{"a loop of eight", append(tower(8, none)[:7], plain(0)), api.ErrLoop},
		{"a loop of nine", append(tower(9, none)[:8], plain(0)), api.ErrLoop},
		{"a loop that begins eight deep", append(tower(9, none)[:8], plain(8)), api.ErrLoop},
		{"a loop of ten is too deep first", append(tower(10, none)[:9], plain(0)), api.ErrDeep},
		{"a part that is met again beside itself", []api.Shape{plain(1, 1), none}, api.OK},
		{"a part that is met again in another one", []api.Shape{plain(1, 2, 1), plain(3), plain(3, 1), none}, api.OK},
		{"a loop elsewhere", []api.Shape{plain(1), none, plain(2), plain(0)}, api.OK},
		{"a loop in the second part", []api.Shape{plain(1, 2), none, plain(1, 2)}, api.ErrLoop},
		{"a loop ahead of what is too deep", append(tower(9, none)[:8], plain(0, 9), none), api.ErrLoop},
		{"a loop behind what is too deep", append(tower(9, none)[:8], plain(9, 0), none), api.ErrDeep},
	} {
		expect(t, c.name, c.l, 0, c.e, c.e)
	}
}

// Parts that stand in one another, as deep as may be and deeper.
func TestDeep(t *testing.T) {
	for n := 1; n < 40; n++ {
		l := tower(n, dot(1, 2, true))
		for glyph := range l {
			left := n - 1 - glyph
			want := api.OK
			if left > 8 {
				want = api.ErrDeep
			}
			expect(t, "a tower", l, glyph, want, want)
			if got, e := flat.Depth(l, glyph); e == api.OK && got != left {
				t.Errorf("glyph %d of %d: %d deep", glyph, n, got)
			}
			if got, e := flat.Outline(l, glyph); e == api.OK && !same(got, l[n-1].Contours) {
				t.Errorf("glyph %d of %d: %v", glyph, n, got)
			}
		}
	}
}

// visited is shapes of which the first one goes to 64 and 64 times 63 others, that are 4096.
func visited() []api.Shape {
	return []api.Shape{times(64, 1), times(63, 2), {}, times(64, 2)}
}

// As many parts as may be gone to, and one more.
func TestVisits(t *testing.T) {
	expect(t, "as many as may be", visited(), 0, api.OK, api.OK)
	for i := range 64 {
		l := visited()
		l[0].Parts[i].Glyph = 3
		expect(t, "one more", l, 0, api.ErrLong, api.ErrLong)
		l[0].Parts[63-i].Glyph = 2
		expect(t, "fewer", l, 0, api.OK, api.OK)
	}
	more := append(visited(), times(64, 4))
	for glyph, want := range []api.Errno{api.OK, api.OK, api.OK, api.OK, api.ErrLoop} {
		expect(t, "each", more, glyph, want, want)
	}
	l := append(visited(), times(63, 2))
	l[0].Parts[63].Glyph = 4
	for _, c := range []struct {
		name  string
		parts []api.Part
		e     api.Errno
	}{
		{"one more", append(times(63, 2).Parts, at(2, 0, 0)), api.ErrLong},
		{"one more, which has parts", append(times(63, 2).Parts, at(1, 0, 0)), api.ErrLong},
		{"one more, a loop to the first", append(times(63, 2).Parts, at(0, 0, 0)), api.ErrLoop},
		{"one more, a loop to the one it is in", append(times(63, 2).Parts, at(4, 0, 0)), api.ErrLoop},
		{"one more within the last one", append(times(62, 2).Parts, at(5, 0, 0)), api.ErrLong},
		{"one more within the last one, and one fewer ahead", append(times(61, 2).Parts, at(5, 0, 0)), api.OK},
	} {
		full := append(slices.Clone(l), plain(2))
		full[4].Parts = c.parts
		expect(t, c.name, full, 0, c.e, c.e)
	}
}

// The last one of as many parts as may be gone to stands eight deep, and what comes behind it.
func TestVisitsDeep(t *testing.T) {
	const none, sixty = 9, 10
	l := append(tower(9, api.Shape{}), api.Shape{}, times(64, none))
	// Glyph 6 is gone to as the sixth one, behind it 62 times 65, then glyph 7, 58 with nothing, and glyph 8.
	l[6].Parts = append(times(62, sixty).Parts, plain(7).Parts...)
	l[7].Parts = append(times(58, none).Parts, plain(8).Parts...)
	expect(t, "as many as may be, eight deep", l, 0, api.OK, api.OK)
	l[8] = plain(9)
	expect(t, "one more, nine deep", l, 0, api.ErrDeep, api.ErrDeep)
	l[8] = plain(0)
	expect(t, "one more, nine deep, and a loop", l, 0, api.ErrLoop, api.ErrLoop)
	l[8] = api.Shape{}
	l[7].Parts = append(l[7].Parts, at(none, 0, 0))
	expect(t, "one more, eight deep", l, 0, api.ErrLong, api.ErrLong)
}

// Points that can't be moved, and what of it comes ahead.
func TestOver(t *testing.T) {
	edge := dot(32767, -32767, true)
	for _, c := range []struct {
		name  string
		l     []api.Shape
		e     api.Errno
		depth api.Errno
	}{
		{"not moved", []api.Shape{plain(1), edge}, api.OK, api.OK},
		{"to the right", []api.Shape{of(at(1, 1, 0)), edge}, api.ErrOver, api.OK},
		{"downwards", []api.Shape{of(at(1, 0, -1)), edge}, api.ErrOver, api.OK},
		{"to the left, and upwards", []api.Shape{of(at(1, -1, 1)), edge}, api.OK, api.OK},
		{"moved back", []api.Shape{of(at(1, -5, 0)), of(at(2, 5, 0)), edge}, api.ErrOver, api.OK},
		{"moved ahead", []api.Shape{of(at(1, 5, 0)), of(at(2, -5, 0)), edge}, api.OK, api.OK},
		{"all ways to the left, and back", []api.Shape{of(at(1, 32767, 0)), of(at(2, -32767, 0)), edge}, api.OK, api.OK},
		{"turned to what is too far", []api.Shape{of(api.Part{Glyph: 1, A: 16385, D: 16384}), edge}, api.ErrOver, api.OK},
		{"the last point of several", []api.Shape{of(at(1, 1, 0)), {Contours: [][]api.Point{{{}, {}}, {{}, {X: 32767}}}}}, api.ErrOver, api.OK},
		{"of no points none", []api.Shape{of(api.Part{Glyph: 1, DX: 32767, DY: -32768, A: 32767}), {}}, api.OK, api.OK},
		{"a later part is a loop", []api.Shape{of(at(1, 1, 0), at(0, 0, 0)), edge}, api.ErrOver, api.ErrLoop},
		{"an earlier part is a loop", []api.Shape{of(at(0, 0, 0), at(1, 1, 0)), edge}, api.ErrLoop, api.ErrLoop},
		{"the part itself has a loop", []api.Shape{of(at(1, 1, 0)), plain(2, 0), edge}, api.ErrLoop, api.ErrLoop},
		{"a part beside it has a loop", []api.Shape{of(at(1, 0, 0)), of(at(2, 1, 0), at(0, 0, 0)), edge}, api.ErrOver, api.ErrLoop},
		{"a part within is moved behind a loop in it", []api.Shape{plain(1, 3), of(at(3, 1, 0)), edge, plain(2, 1)}, api.ErrLoop, api.ErrLoop},
		{"a later part is too deep", append([]api.Shape{of(at(9, 1, 0), at(1, 0, 0))}, tower(10, edge)[1:]...), api.ErrOver, api.ErrDeep},
		{"an earlier part is too deep", append([]api.Shape{of(at(1, 0, 0), at(9, 1, 0))}, tower(10, edge)[1:]...), api.ErrDeep, api.ErrDeep},
	} {
		expect(t, c.name, c.l, 0, c.e, c.depth)
	}
}

// More contours or points than may be, and what of it comes ahead.
func TestLong(t *testing.T) {
	edge := dot(32767, 0, true)
	over, loop := at(2, 1, 0), at(0, 0, 0)
	half, more := drawn(128, 16), drawn(1, 1)
	for _, c := range []struct {
		name  string
		l     []api.Shape
		e     api.Errno
		depth api.Errno
	}{
		{"as many as may be", []api.Shape{plain(1, 1), half, more}, api.OK, api.OK},
		{"as many as may be, and nothing", []api.Shape{plain(1, 1, 2), half, {}}, api.OK, api.OK},
		{"one more of both", []api.Shape{plain(1, 1, 2), half, more}, api.ErrLong, api.OK},
		{"one more of both, ahead", []api.Shape{plain(2, 1, 1), half, more}, api.ErrLong, api.OK},
		{"one more point", []api.Shape{plain(1, 1, 2), drawn(1, 2048), more}, api.ErrLong, api.OK},
		{"as many points as may be", []api.Shape{plain(1, 1, 2), drawn(1, 2047), drawn(1, 2)}, api.OK, api.OK},
		{"one more contour", []api.Shape{plain(1, 1, 2), drawn(128, 1), more}, api.ErrLong, api.OK},
		{"as many contours as may be", []api.Shape{plain(1, 1, 2), drawn(127, 1), drawn(2, 1)}, api.OK, api.OK},
		{"within a part, that has too many", []api.Shape{plain(3), half, more, plain(1, 1, 2)}, api.ErrLong, api.OK},
		{"a part has as many as may be", []api.Shape{plain(3), half, more, plain(1, 1)}, api.OK, api.OK},
		{"a part has as many as may be, and one more is behind it", []api.Shape{plain(3, 2), half, more, plain(1, 1)}, api.ErrLong, api.OK},
		{"a part has as many as may be, and one more is ahead of it", []api.Shape{plain(2, 3), half, more, plain(1, 1)}, api.ErrLong, api.OK},
		{"a loop behind too many", []api.Shape{of(at(1, 0, 0), at(1, 0, 0), at(2, 0, 0), loop), half, edge}, api.ErrLong, api.ErrLoop},
		{"a loop ahead of too many", []api.Shape{of(at(1, 0, 0), at(1, 0, 0), loop, at(2, 0, 0)), half, edge}, api.ErrLoop, api.ErrLoop},
		{"a point that is one too many and can't be moved", []api.Shape{of(at(1, 0, 0), at(1, 0, 0), over), half, edge}, api.ErrOver, api.OK},
		{"a point that can't be moved behind too many", []api.Shape{of(at(1, 0, 0), at(1, 0, 0), at(2, 0, 0), over), half, edge}, api.ErrLong, api.OK},
		{"too many within, that couldn't be moved", []api.Shape{of(at(3, 32767, 0)), half, edge, plain(1, 1, 2)}, api.ErrLong, api.OK},
		{"as many as may be within, that can't be moved", []api.Shape{of(at(3, 32767, 0)), half, edge, plain(1, 2)}, api.ErrOver, api.OK},
		{"64 parts of 64 points", []api.Shape{times(64, 1), drawn(4, 16)}, api.OK, api.OK},
		{"64 parts of 65 points", []api.Shape{times(64, 1), drawn(1, 65)}, api.ErrLong, api.OK},
		{"64 parts of 5 contours", []api.Shape{times(64, 1), drawn(5, 1)}, api.ErrLong, api.OK},
	} {
		expect(t, c.name, c.l, 0, c.e, c.depth)
	}
	for n := 1; n < 70; n++ {
		want := api.OK
		if n > 64 {
			want = api.ErrLong
		}
		expect(t, "64 parts", []api.Shape{times(64, 1), drawn(1, n)}, 0, want, api.OK)
	}
}

// some is glyphs in which nothing is wrong, one behind the other, and their places.
func some(t *testing.T) (string, []int, []api.Shape) {
	l := []api.Shape{corners(), of(at(0, 5, 0), api.Part{Glyph: 3, DX: 300, A: 1, B: 2, C: 3, D: 4}), {}, dot(-300, 700, false), plain(1, 1), {}, {Contours: [][]api.Point{{{X: 32700}, {X: 32760}}}}}
	data, places := "any bytes", []int{9}
	for _, s := range l {
		text, e := glyf.Make(s.Contours)
		if len(s.Parts) > 0 {
			text, e = comp.Make(s.Parts)
		}
		if e != api.OK {
			t.Fatal(e)
		}
		data += text
		places = append(places, len(data))
	}
	return data + "more", places, l
}

func TestParse(t *testing.T) {
	data, places, want := some(t)
	if got, e := flat.Parse(data, places); !alike(got, want) || e != api.OK {
		t.Errorf("%v, %d", got, e)
	}
	checkParse(t, data, places)
	for glyph := range want {
		if e, f := checkOutline(t, want, glyph); e != api.OK || f != api.OK {
			t.Errorf("glyph %d: %d, %d", glyph, e, f)
		}
	}
	for _, c := range []struct {
		name, data string
		places     []int
		l          []api.Shape
	}{
		{"nothing", "", []int{0, 0}, make([]api.Shape, 1)},
		{"nothing of something", "\xff\xff\xff", []int{2, 2, 2, 2}, make([]api.Shape, 3)},
		{"at the end", "\xff\xff\xff", []int{3, 3}, make([]api.Shape, 1)},
		{"as many as may be", "", make([]int, 1025), make([]api.Shape, 1024)},
		{"no contours", "\x00\x00any bytes", []int{0, 10}, make([]api.Shape, 1)},
		{"no contours twice, and bytes that play no role", "\x00\x00any bytes\x00\x00any bytes", []int{0, 11, 22}, make([]api.Shape, 2)},
		{"a part of itself", "\xff\xffany byte\x00\x02\x00\x00\x01\x02", []int{0, 16}, []api.Shape{of(at(0, 1, 2))}},
	} {
		if got, e := flat.Parse(c.data, c.places); !alike(got, c.l) || e != api.OK {
			t.Errorf("%s: %v, %d", c.name, got, e)
		}
		checkParse(t, c.data, c.places)
	}
}

// Which error is answered, of one fault and of several.
func TestParseErrors(t *testing.T) {
	const (
		part  = "\xff\xffany byte\x00\x02\x00\x01\x01\x02"
		point = "\x00\x01any byte\x00\x00\x00\x00\x31"
	)
	both := part + point
	for _, c := range []struct {
		name, data string
		places     []int
		e          api.Errno
	}{
		{"fine", both, []int{0, 16, 31}, api.OK},
		{"no places", both, nil, api.ErrArg},
		{"one place", both, []int{0}, api.ErrArg},
		{"one place too many", "", make([]int, 1026), api.ErrArg},
		{"a place below 0", both, []int{-1, 16, 31}, api.ErrArg},
		{"a place beyond the end", both, []int{0, 16, 32}, api.ErrArg},
		{"all places beyond the end", both, []int{32, 32}, api.ErrArg},
		{"all places below 0", both, []int{-1, -1}, api.ErrArg},
		{"a place between them beyond the end", both, []int{0, 32, 31}, api.ErrArg},
		{"places that fall", both, []int{0, 16, 15}, api.ErrArg},
		{"places that fall, of what is wrong", "\xff\xff", []int{0, 2, 1}, api.ErrArg},
		{"places that fall at first", both, []int{16, 0, 31}, api.ErrArg},
		{"a place far below", both, []int{math.MinInt, 16, 31}, api.ErrArg},
		{"a place far beyond", both, []int{0, 16, math.MaxInt}, api.ErrArg},
		{"a glyph that isn't there", part, []int{0, 16}, api.ErrForm},
		{"a glyph that is there, without bytes", part, []int{0, 16, 16}, api.OK},
		{"the second has a glyph that isn't there", part[:12] + "\x00\x00\x01\x02" + part[:12] + "\x00\x02\x01\x02", []int{0, 16, 32}, api.ErrForm},
		{"the second has a glyph that is there", part[:12] + "\x00\x00\x01\x02" + part[:12] + "\x00\x02\x01\x02", []int{0, 16, 32, 32}, api.OK},
		{"parts end", both, []int{0, 15, 31}, api.ErrEnd},
		{"contours end", both, []int{0, 16, 30}, api.ErrEnd},
		{"a byte, as of parts", "\xff", []int{0, 1}, api.ErrEnd},
		{"two bytes, as of parts", "\xff\xff", []int{0, 2}, api.ErrEnd},
		{"one byte of contours", "\x00", []int{0, 1}, api.ErrEnd},
		{"too many contours", "\x01\x01any byte", []int{0, 10}, api.ErrLong},
		{"too many parts", "\xff\xffany byte" + strings.Repeat("\x00\x22\x00\x00\x00\x00", 65), []int{0, 400}, api.ErrLong},
		{"a point too far off", "\x00\x01any byte\x00\x00\x00\x00\x21\x80\x00", []int{0, 17}, api.ErrOver},
		{"a flag that may not be", "\x00\x01any byte\x00\x00\x00\x00\xb1", []int{0, 15}, api.ErrForm},
		{"the first of two that are wrong: parts end", both, []int{0, 15, 30}, api.ErrEnd},
		{"the first of two that are wrong: too many contours", "\x01\x01any byte" + "\xff\xff", []int{0, 10, 12}, api.ErrLong},
		{"the first of two that are wrong: too few bytes", "\xff\xff" + "\x01\x01any byte", []int{0, 2, 12}, api.ErrEnd},
	} {
		expectParse(t, c.name, c.data, c.places, c.e)
	}
}

// Each byte of several glyphs turned into some others, each place turned into each other one, and each beginning.
func TestEachByte(t *testing.T) {
	data, places, _ := some(t)
	seen := map[api.Errno]int{}
	for i := range data {
		for _, b := range []byte{0, 1, 2, 3, 5, 6, 8, 15, 16, 32, 49, 64, 127, 128, 200, 255} {
			seen[checkParse(t, data[:i]+string([]byte{b})+data[i+1:], places)]++
		}
	}
	for i := range places {
		for n := -2; n < len(data)+3; n++ {
			l := slices.Clone(places)
			l[i] = n
			seen[checkParse(t, data, l)]++
		}
	}
	for i := range data {
		seen[checkParse(t, data[:i], places)]++
	}
	for i := range places {
		seen[checkParse(t, data, places[i:])]++
		seen[checkParse(t, data, places[:i])]++
	}
	for _, e := range []api.Errno{api.OK, api.ErrArg, api.ErrEnd, api.ErrForm, api.ErrLong, api.ErrOver} {
		if seen[e] == 0 {
			t.Errorf("no error %d", e)
		}
	}
}

// anyPart is a part, of a few that differ in much.
func anyPart(r *rand.Rand, glyph int) api.Part {
	p := at(glyph, r.Intn(40)-20, r.Intn(40)-20)
	switch r.Intn(6) {
	case 0:
		p.A, p.B, p.C, p.D = r.Intn(65536)-32768, r.Intn(65536)-32768, r.Intn(65536)-32768, r.Intn(65536)-32768
	case 1:
		p.A, p.D = r.Intn(65536)-32768, r.Intn(65536)-32768
	case 2:
		p.DX, p.DY = r.Intn(65536)-32768, r.Intn(65536)-32768
	}
	return p
}

// anyShapes is shapes whose parts are mostly those behind them, so that most of them have no loop.
func anyShapes(r *rand.Rand) []api.Shape {
	l := make([]api.Shape, 1+r.Intn(14))
	odd, wide := r.Intn(3) == 0, []int{1, 2, 4, 8, 30, 64}[r.Intn(6)]
	for i := range l {
		left := len(l) - i - 1
		switch {
		case r.Intn(4) == 0 || left == 0:
			for range r.Intn(1 + r.Intn(5)) {
				var contour []api.Point
				for range 1 + r.Intn(1<<r.Intn(8)) {
					contour = append(contour, api.Point{X: r.Intn(2000) - 1000, Y: r.Intn(2000) - 1000, On: r.Intn(2) == 0})
				}
				l[i].Contours = append(l[i].Contours, contour)
			}
		case odd && r.Intn(8) == 0:
			l[i].Parts = append(l[i].Parts, anyPart(r, r.Intn(len(l))))
		default:
			for range 1 + r.Intn(wide) {
				l[i].Parts = append(l[i].Parts, anyPart(r, i+1+r.Intn(min(left, 1+r.Intn(3)))))
			}
		}
	}
	return l
}

func TestRandom(t *testing.T) {
	r := rand.New(rand.NewSource(15))
	outlines, depths := map[api.Errno]int{}, map[api.Errno]int{}
	for range 20000 {
		l := anyShapes(r)
		checkMay(t, l)
		e, f := checkOutline(t, l, r.Intn(len(l)))
		outlines[e]++
		depths[f]++
	}
	for _, e := range []api.Errno{api.OK, api.ErrOver, api.ErrLoop, api.ErrDeep, api.ErrLong} {
		if outlines[e] == 0 || depths[e] == 0 && e != api.ErrOver {
			t.Errorf("error %d: %d and %d times", e, outlines[e], depths[e])
		}
	}
}

// What is made of shapes is parsed to them.
func TestRandomParse(t *testing.T) {
	r := rand.New(rand.NewSource(16))
	for range 2000 {
		l := anyShapes(r)
		data, places := "", []int{0}
		for _, s := range l {
			text, e := glyf.Make(s.Contours)
			if len(s.Parts) > 0 {
				text, e = comp.Make(s.Parts)
			}
			if e != api.OK {
				t.Fatal(e)
			}
			data += text + strings.Repeat("?", r.Intn(2)*len(text)%3)
			places = append(places, len(data))
		}
		if got, e := flat.Parse(data, places); !alike(got, l) || e != api.OK {
			t.Fatalf("Parse of what is made of %s = %s, %d", brief(l), brief(got), e)
		}
	}
}

// copyOf is shapes in memory of their own.
func copyOf(l []api.Shape) []api.Shape {
	var out []api.Shape
	for _, s := range l {
		var c api.Shape
		for _, contour := range s.Contours {
			c.Contours = append(c.Contours, slices.Clone(contour))
		}
		c.Parts = slices.Clone(s.Parts)
		out = append(out, c)
	}
	return out
}

// What is handed in isn't changed, and what is answered shares no memory with it, nor with itself.
func TestOwn(t *testing.T) {
	l := []api.Shape{corners(), plain(0, 0), plain(1, 0)}
	kept := copyOf(l)
	for glyph := range l {
		got, _ := flat.Outline(l, glyph)
		want, _, _ := gone(l, glyph, true)
		for i := range got {
			full := got[i][:cap(got[i])]
			for j := range full {
				full[j] = api.Point{X: 9999 + i, Y: j, On: true}
			}
		}
		for i := range got {
			for j, p := range got[i] {
				if p != (api.Point{X: 9999 + i, Y: j, On: true}) {
					t.Fatalf("glyph %d: contours %d share memory", glyph, i)
				}
			}
		}
		if again, _ := flat.Outline(l, glyph); !same(again, want) || !alike(l, kept) {
			t.Fatalf("glyph %d: what was answered was kept", glyph)
		}
		flat.Depth(l, glyph)
		flat.May(l)
		if !alike(l, kept) {
			t.Fatalf("glyph %d: what was handed in was changed", glyph)
		}
	}
	data, places, want := some(t)
	before := slices.Clone(places)
	got, _ := flat.Parse(data, places)
	for i := range got {
		for _, contour := range got[i].Contours {
			clear(contour[:cap(contour)])
		}
		clear(got[i].Parts)
	}
	if again, e := flat.Parse(data, places); !alike(again, want) || e != api.OK || !slices.Equal(places, before) {
		t.Fatal("what was answered was kept")
	}
}
