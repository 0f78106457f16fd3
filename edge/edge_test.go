package edge_test

import (
	"fmt"
	"math"
	"math/rand"
	"slices"
	"testing"

	"pochoir/api"
	"pochoir/edge"
)

// far are numbers that are far from all bounds, or that are within them once they go round.
var far = []int{math.MinInt, math.MinInt + 1, -1<<32 + 1, -1 << 32, 1 << 32, 1<<32 + 1, -1 << 31, 1 << 31, -1 << 16, 1<<16 + 1, math.MaxInt - 1, math.MaxInt}

// brief is anything in a text that isn't too long.
func brief(v any) string {
	return fmt.Sprintf("%.300s", fmt.Sprint(v))
}

// checkEdges holds Edges against the chapter's words; what is answered may be, and is closed.
func checkEdges(t *testing.T, l [][]api.Point, px int) api.Errno {
	t.Helper()
	want, f := edges(l, px)
	got, e := edge.Edges(l, px)
	if e != f || !slices.Equal(got, want) {
		t.Fatalf("Edges(%s of %d, %d) = %s of %d, %d; want %s of %d, %d", brief(l), len(l), px, brief(got), len(got), e, brief(want), len(want), f)
	}
	if !edge.May(got) || !edge.Closed(got) {
		t.Fatalf("Edges(%s of %d, %d) = %s of %d: they may be: %t; they are closed: %t", brief(l), len(l), px, brief(got), len(got), edge.May(got), edge.Closed(got))
	}
	check(t, got)
	return e
}

// check holds Box, Closed and May against the chapter's words.
func check(t *testing.T, l []api.Edge) (isClosed, isFine bool) {
	t.Helper()
	low, high, there := box(l)
	if a, b, ok := edge.Box(l); a != low || b != high || ok != there {
		t.Fatalf("Box(%s of %d) = %v, %v, %t; want %v, %v, %t", brief(l), len(l), a, b, ok, low, high, there)
	}
	isClosed, isFine = closed(l), may(l)
	if got := edge.Closed(l); got != isClosed {
		t.Fatalf("Closed(%s of %d) = %t; want %t", brief(l), len(l), got, isClosed)
	}
	if got := edge.May(l); got != isFine {
		t.Fatalf("May(%s of %d) = %t; want %t", brief(l), len(l), got, isFine)
	}
	return isClosed, isFine
}

// expect holds Edges against an error that is told in the test, and against the chapter's words.
func expect(t *testing.T, name string, l [][]api.Point, px int, want api.Errno) {
	t.Helper()
	if e := checkEdges(t, l, px); e != want {
		t.Errorf("%s: %d; want %d", name, e, want)
	}
}

// on is a point on the outline.
func on(x, y int) api.Point {
	return api.Point{X: x, Y: y, On: true}
}

// off is a point off the outline.
func off(x, y int) api.Point {
	return api.Point{X: x, Y: y}
}

// pt is a point in fine units.
func pt(x, y int) api.Pt {
	return api.Pt{X: x, Y: y}
}

// line is a line of a contour.
func line(contour, ax, ay, cx, cy int) api.Edge {
	return api.Edge{Contour: contour, A: pt(ax, ay), C: pt(cx, cy)}
}

// quad is a curve of a contour.
func quad(contour, ax, ay, bx, by, cx, cy int) api.Edge {
	return api.Edge{Contour: contour, Quad: true, A: pt(ax, ay), B: pt(bx, by), C: pt(cx, cy)}
}

// back is an edge's way back.
func back(e api.Edge) api.Edge {
	e.A, e.C = e.C, e.A
	return e
}

// number is the kth of the six numbers of an edge's points.
func number(e *api.Edge, k int) *int {
	return []*int{&e.A.X, &e.A.Y, &e.B.X, &e.B.Y, &e.C.X, &e.C.Y}[k]
}

// times is n contours, each of so many points that differ.
func times(n, points int, p api.Point) [][]api.Point {
	var l [][]api.Point
	for range n {
		contour := make([]api.Point, points)
		for i := range contour {
			contour[i] = api.Point{X: p.X + i, Y: p.Y - i*i%89, On: p.On}
		}
		l = append(l, contour)
	}
	return l
}

func TestExample(t *testing.T) {
	l, e := edge.Edges([][]api.Point{{on(0, 0), on(10, 0)}}, 1)
	if want := []api.Edge{line(0, 0, 0, 20, 0), line(0, 20, 0, 0, 0)}; e != api.OK || !slices.Equal(l, want) {
		t.Errorf("%v, %d", l, e)
	}
}

// The edges of one contour, written out, with one texel an em.
func TestContour(t *testing.T) {
	for _, c := range []struct {
		name string
		l    []api.Point
		want []api.Edge
	}{
		{"three lines", []api.Point{on(1, 2), on(5, 2), on(3, -7)},
			[]api.Edge{line(0, 2, 4, 10, 4), line(0, 10, 4, 6, -14), line(0, 6, -14, 2, 4)}},
		{"one on", []api.Point{on(5, 7)}, nil},
		{"one on, at 0, 0", []api.Point{on(0, 0)}, nil},
		{"one off", []api.Point{off(5, 7)}, nil},
		{"one off, at 0, 0", []api.Point{off(0, 0)}, nil},
		{"on, off", []api.Point{on(1, 1), off(2, 5)},
			[]api.Edge{quad(0, 2, 2, 4, 10, 2, 2)}},
		{"off, on", []api.Point{off(2, 5), on(1, 1)},
			[]api.Edge{quad(0, 2, 2, 4, 10, 2, 2)}},
		{"two off", []api.Point{off(1, 1), off(4, 6)},
			[]api.Edge{quad(0, 5, 7, 2, 2, 5, 7), quad(0, 5, 7, 8, 12, 5, 7)}},
		{"three off", []api.Point{off(0, 0), off(3, 0), off(-4, -5)},
			[]api.Edge{quad(0, -4, -5, 0, 0, 3, 0), quad(0, 3, 0, 6, 0, -1, -5), quad(0, -1, -5, -8, -10, -4, -5)}},
		{"on, two off", []api.Point{on(0, 0), off(3, 0), off(0, 5)},
			[]api.Edge{quad(0, 0, 0, 6, 0, 3, 5), quad(0, 3, 5, 0, 10, 0, 0)}},
		{"off, on, off", []api.Point{off(0, 5), on(1, 1), off(3, 0)},
			[]api.Edge{quad(0, 2, 2, 6, 0, 3, 5), quad(0, 3, 5, 0, 10, 2, 2)}},
		{"two off, on", []api.Point{off(3, 0), off(0, 5), on(1, 1)},
			[]api.Edge{quad(0, 2, 2, 6, 0, 3, 5), quad(0, 3, 5, 0, 10, 2, 2)}},
		{"off, on, on, off", []api.Point{off(0, 4), on(0, 2), on(2, 0), off(4, 0)},
			[]api.Edge{line(0, 0, 4, 4, 0), quad(0, 4, 0, 8, 0, 4, 4), quad(0, 4, 4, 0, 8, 0, 4)}},
		{"off, off, on, off, on", []api.Point{off(9, 9), off(0, 9), on(0, 0), off(5, -5), on(9, 0)},
			[]api.Edge{quad(0, 0, 0, 10, -10, 18, 0), quad(0, 18, 0, 18, 18, 9, 18), quad(0, 9, 18, 0, 18, 0, 0)}},
		{"a line to 0, 0 and from it", []api.Point{on(-1, 0), on(0, 0), on(0, -1)},
			[]api.Edge{line(0, -2, 0, 0, 0), line(0, 0, 0, 0, -2), line(0, 0, -2, -2, 0)}},
		{"a curve by 0, 0", []api.Point{on(1, 0), off(0, 0), on(0, 1)},
			[]api.Edge{quad(0, 2, 0, 0, 0, 0, 2), line(0, 0, 2, 2, 0)}},
		{"a point twice", []api.Point{on(3, 4), on(3, 4), on(5, 6)},
			[]api.Edge{line(0, 6, 8, 10, 12), line(0, 10, 12, 6, 8)}},
		{"the first point at the end", []api.Point{on(3, 4), on(5, 6), on(3, 4)},
			[]api.Edge{line(0, 6, 8, 10, 12), line(0, 10, 12, 6, 8)}},
		{"a point three times", []api.Point{on(3, 4), on(3, 4), on(3, 4)}, nil},
		{"a point on and off", []api.Point{on(3, 4), off(3, 4)}, nil},
		{"a point on and twice off", []api.Point{on(3, 4), off(3, 4), off(3, 4)}, nil},
		{"a point twice off", []api.Point{off(3, 4), off(3, 4)}, nil},
		{"a point on and off, and another one", []api.Point{on(3, 4), off(3, 4), on(5, 6)},
			[]api.Edge{quad(0, 6, 8, 6, 8, 10, 12), line(0, 10, 12, 6, 8)}},
		{"a point off and on, and another one", []api.Point{off(3, 4), on(3, 4), on(5, 6)},
			[]api.Edge{line(0, 6, 8, 10, 12), quad(0, 10, 12, 6, 8, 6, 8)}},
		{"a point on, off, on, and another one", []api.Point{on(3, 4), off(3, 4), on(3, 4), on(5, 6)},
			[]api.Edge{line(0, 6, 8, 10, 12), line(0, 10, 12, 6, 8)}},
		{"a curve there and back", []api.Point{on(3, 4), off(0, 0), on(3, 4), on(5, 6)},
			[]api.Edge{quad(0, 6, 8, 0, 0, 6, 8), line(0, 6, 8, 10, 12), line(0, 10, 12, 6, 8)}},
		{"a point twice off, between two on", []api.Point{on(0, 0), off(3, 4), off(3, 4), on(9, 0)},
			[]api.Edge{quad(0, 0, 0, 6, 8, 6, 8), quad(0, 6, 8, 6, 8, 18, 0), line(0, 18, 0, 0, 0)}},
		{"a point three times off, between two on", []api.Point{on(0, 0), off(3, 4), off(3, 4), off(3, 4), on(9, 0)},
			[]api.Edge{quad(0, 0, 0, 6, 8, 6, 8), quad(0, 6, 8, 6, 8, 18, 0), line(0, 18, 0, 0, 0)}},
		{"a point that differs in x alone", []api.Point{on(3, 4), on(-3, 4)},
			[]api.Edge{line(0, 6, 8, -6, 8), line(0, -6, 8, 6, 8)}},
		{"a point that differs in y alone", []api.Point{on(3, 4), on(3, -4)},
			[]api.Edge{line(0, 6, 8, 6, -8), line(0, 6, -8, 6, 8)}},
		{"a middle below 0 that isn't even", []api.Point{off(-1, -2), off(0, -1)},
			[]api.Edge{quad(0, -1, -3, -2, -4, -1, -3), quad(0, -1, -3, 0, -2, -1, -3)}},
	} {
		l, e := edge.Edges([][]api.Point{c.l}, 1)
		if e != api.OK || !slices.Equal(l, c.want) {
			t.Errorf("%s: %v, %d; want %v", c.name, l, e, c.want)
		}
		for _, px := range []int{1, 2, 3, 127, 128} {
			checkEdges(t, [][]api.Point{c.l}, px)
		}
	}
}

// The edges of several contours: each tells its contour's place, also where another one has no edges.
func TestContours(t *testing.T) {
	l := [][]api.Point{
		{on(1, 1)},
		{on(0, 0), on(1, 0), off(1, 1)},
		{off(2, 2), off(2, 2)},
		{on(4, 4)},
		{on(0, 0), on(0, 1)},
		{on(0, 0), on(0, 1)},
		{off(7, 7)},
	}
	want := []api.Edge{
		line(1, 0, 0, 6, 0), quad(1, 6, 0, 6, 6, 0, 0),
		line(4, 0, 0, 0, 6), line(4, 0, 6, 0, 0),
		line(5, 0, 0, 0, 6), line(5, 0, 6, 0, 0),
	}
	if got, e := edge.Edges(l, 3); e != api.OK || !slices.Equal(got, want) {
		t.Errorf("%v, %d; want %v", got, e, want)
	}
	checkEdges(t, l, 3)
	for i := range l {
		for j := i; j <= len(l); j++ {
			checkEdges(t, l[i:j], 1)
		}
	}
}

// No contours, and no edges.
func TestNone(t *testing.T) {
	for _, l := range [][][]api.Point{nil, {}, make([][]api.Point, 0, 9), {{on(1, 2)}}, {{off(1, 2)}, {on(0, 0), on(0, 0)}}} {
		if got, e := edge.Edges(l, 1); len(got) != 0 || e != api.OK {
			t.Errorf("Edges(%v) = %v, %d", l, got, e)
		}
	}
	for _, l := range [][]api.Edge{nil, {}, make([]api.Edge, 0, 9)} {
		if low, high, there := edge.Box(l); low != (api.Pt{}) || high != (api.Pt{}) || there {
			t.Errorf("Box = %v, %v, %t", low, high, there)
		}
		if !edge.Closed(l) || !edge.May(l) {
			t.Errorf("no edges: closed: %t; they may be: %t", edge.Closed(l), edge.May(l))
		}
	}
}

// How many texels an em may have, and what it does to the edges.
func TestPx(t *testing.T) {
	l := [][]api.Point{{on(1, -2), off(3, 5), off(-4, 0)}, {on(0, 0), on(-1, 1)}}
	first, _ := edge.Edges(l, 1)
	for px := -300; px <= 300; px++ {
		got, e := edge.Edges(l, px)
		if px < 1 || px > 128 {
			if e != api.ErrArg || len(got) != 0 {
				t.Errorf("px %d: %v, %d", px, got, e)
			}
			expect(t, "no contours", nil, px, api.ErrArg)
			continue
		}
		want := slices.Clone(first)
		for i := range want {
			for _, p := range []*api.Pt{&want[i].A, &want[i].B, &want[i].C} {
				p.X, p.Y = p.X*px, p.Y*px
			}
		}
		if e != api.OK || !slices.Equal(got, want) {
			t.Errorf("px %d: %v, %d; want %v", px, got, e, want)
		}
		checkEdges(t, l, px)
	}
	for _, px := range far {
		expect(t, "far", l, px, api.ErrArg)
		expect(t, "far", nil, px, api.ErrArg)
	}
}

// Contours that may be, and those that may not be.
func TestArguments(t *testing.T) {
	fine := []api.Point{on(1, 2), on(3, 4)}
	for _, c := range []struct {
		name string
		l    [][]api.Point
		e    api.Errno
	}{
		{"a contour", [][]api.Point{fine}, api.OK},
		{"a contour without points", [][]api.Point{{}}, api.ErrArg},
		{"a last contour without points", [][]api.Point{fine, fine, nil}, api.ErrArg},
		{"a first contour without points", [][]api.Point{nil, fine}, api.ErrArg},
		{"256 contours", times(256, 2, on(1, 2)), api.OK},
		{"257 contours", times(257, 2, on(1, 2)), api.ErrArg},
		{"256 contours of 16 points", times(256, 16, on(1, 2)), api.OK},
		{"256 contours of 16 points off", times(256, 16, off(1, 2)), api.OK},
		{"4096 points of a contour", times(1, 4096, on(1, 2)), api.OK},
		{"4096 points off, of a contour", times(1, 4096, off(1, 2)), api.OK},
		{"4097 points of a contour", times(1, 4097, on(1, 2)), api.ErrArg},
		{"4097 points off, of a contour", times(1, 4097, off(1, 2)), api.ErrArg},
		{"4097 points of two", append(times(1, 4096, on(1, 2)), []api.Point{on(1, 1)}), api.ErrArg},
		{"4097 points without edges", [][]api.Point{make([]api.Point, 4097)}, api.ErrArg},
		{"4096 points without edges", [][]api.Point{make([]api.Point, 4096)}, api.OK},
	} {
		expect(t, c.name, c.l, 1, c.e)
		expect(t, c.name, c.l, 128, c.e)
		expect(t, c.name+", px 0", c.l, 0, api.ErrArg)
		expect(t, c.name+", px 129", c.l, 129, api.ErrArg)
	}
	for _, n := range append([]int{32768, -32768}, far...) {
		for _, p := range []api.Point{on(n, 0), on(0, n), off(n, 0), off(0, n)} {
			expect(t, "too far off", [][]api.Point{fine, {on(0, 0), p, on(1, 1)}}, 1, api.ErrArg)
			expect(t, "alone and too far off", [][]api.Point{{p}}, 1, api.ErrArg)
		}
	}
}

// The contours with most edges, and with the farthest points.
func TestMost(t *testing.T) {
	for _, p := range []api.Point{on(1, 2), off(1, 2)} {
		for _, l := range [][][]api.Point{times(1, 4096, p), times(256, 16, p)} {
			if got, e := edge.Edges(l, 128); len(got) != 4096 || e != api.OK {
				t.Errorf("%d edges, %d", len(got), e)
			}
		}
	}
	const most, fine = 32767, 32767 * 256
	got, e := edge.Edges([][]api.Point{{on(most, most), on(-most, most), off(-most, -most), off(most, -most)}}, 128)
	want := []api.Edge{
		line(0, fine, fine, -fine, fine),
		quad(0, -fine, fine, -fine, -fine, 0, -fine),
		quad(0, 0, -fine, fine, -fine, fine, fine),
	}
	if e != api.OK || !slices.Equal(got, want) {
		t.Errorf("%v, %d; want %v", got, e, want)
	}
	got, e = edge.Edges([][]api.Point{{off(most, most), off(most, most-1)}}, 128)
	want = []api.Edge{
		quad(0, fine, fine-128, fine, fine, fine, fine-128),
		quad(0, fine, fine-128, fine, fine-256, fine, fine-128),
	}
	if e != api.OK || !slices.Equal(got, want) {
		t.Errorf("%v, %d; want %v", got, e, want)
	}
}

func TestBox(t *testing.T) {
	for _, c := range []struct {
		name      string
		l         []api.Edge
		low, high api.Pt
	}{
		{"a line", []api.Edge{line(0, 5, 6, 7, 8)}, pt(5, 6), pt(7, 8)},
		{"a line, back", []api.Edge{line(0, 7, 8, 5, 6)}, pt(5, 6), pt(7, 8)},
		{"a line below 0", []api.Edge{line(0, -5, -6, -7, -8)}, pt(-7, -8), pt(-5, -6)},
		{"a line's B", []api.Edge{{A: pt(5, 6), B: pt(100, -100), C: pt(7, 8)}}, pt(5, 6), pt(7, 8)},
		{"a curve's B above", []api.Edge{quad(0, 5, 6, 100, 101, 7, 8)}, pt(5, 6), pt(100, 101)},
		{"a curve's B below", []api.Edge{quad(0, 5, 6, -100, -101, 7, 8)}, pt(-100, -101), pt(7, 8)},
		{"a curve's B at 0, 0", []api.Edge{quad(0, 5, 6, 0, 0, 7, 8)}, pt(0, 0), pt(7, 8)},
		{"a curve's B within", []api.Edge{quad(0, 5, 6, 6, 7, 7, 8)}, pt(5, 6), pt(7, 8)},
		{"a point", []api.Edge{line(0, 5, 6, 5, 6)}, pt(5, 6), pt(5, 6)},
		{"each by another edge", []api.Edge{line(0, 1, 2, -3, 4), line(3, 9, 5, 1, 1), quad(-1, 1, 1, 2, 8, 3, 3), line(0, 1, 2, 1, -7)}, pt(-3, -7), pt(9, 8)},
		{"x and y by the same point", []api.Edge{line(0, 1, 2, 3, 4), quad(1, 2, 2, 2, 2, -1, -1), line(2, 2, 2, 2, 3)}, pt(-1, -1), pt(3, 4)},
		{"the farthest", []api.Edge{line(0, math.MinInt, 0, 0, math.MaxInt)}, pt(math.MinInt, 0), pt(0, math.MaxInt)},
		{"the farthest by a curve", []api.Edge{quad(0, 0, 1, math.MaxInt, math.MinInt, 2, 3)}, pt(0, math.MinInt), pt(math.MaxInt, 3)},
	} {
		if low, high, there := edge.Box(c.l); low != c.low || high != c.high || !there {
			t.Errorf("%s: %v, %v, %t; want %v, %v", c.name, low, high, there, c.low, c.high)
		}
		check(t, c.l)
	}
}

// Each number of three edges, as the only one that is greater, or less, than all others.
func TestBoxEach(t *testing.T) {
	for i := range 3 {
		for _, isQuad := range []bool{false, true} {
			for _, n := range []int{-50, 50} {
				for k := range 6 {
					l := []api.Edge{quad(0, 1, 2, 3, 4, 5, 6), quad(0, 6, 5, 4, 3, 2, 1), quad(1, 2, 3, 4, 5, 6, 1)}
					l[i].Quad = isQuad
					*number(&l[i], k) = n
					check(t, l)
				}
			}
		}
	}
}

func TestClosed(t *testing.T) {
	round := func(contour int) []api.Edge {
		return []api.Edge{line(contour, 0, 0, 4, 0), quad(contour, 4, 0, 4, 4, 0, 4), line(contour, 0, 4, 0, 0)}
	}
	for _, c := range []struct {
		name string
		l    []api.Edge
		want bool
	}{
		{"one contour", round(0), true},
		{"a contour of any place", round(-7), true},
		{"of the greatest place", round(math.MaxInt), true},
		{"begun at its second edge", append(round(0)[1:], round(0)[0]), true},
		{"without its first edge", round(0)[1:], false},
		{"without its second edge", slices.Delete(round(0), 1, 2), false},
		{"without its last edge", round(0)[:2], false},
		{"a line", []api.Edge{line(0, 1, 2, 3, 4)}, false},
		{"a line that is a point", []api.Edge{line(0, 1, 2, 1, 2)}, true},
		{"a curve", []api.Edge{quad(0, 1, 2, 3, 4, 5, 6)}, false},
		{"a curve back to where it begins", []api.Edge{quad(0, 1, 2, 3, 4, 1, 2)}, true},
		{"a curve back to its B", []api.Edge{quad(0, 1, 2, 3, 4, 3, 4)}, false},
		{"two contours", append(round(0), round(1)...), true},
		{"two contours, the places falling", append(round(1), round(0)...), true},
		{"two contours, that aren't neighbours", append(round(-3), round(9)...), true},
		{"one contour, twice round", append(round(2), round(2)...), true},
		{"a contour, another one, and the first one's place again", slices.Concat(round(0), round(1), round(0)), true},
		{"a contour within another one", slices.Concat(round(0)[:2], round(1), round(0)[2:]), false},
		{"two contours, the first one without its last edge", append(round(0)[:2], round(1)...), false},
		{"two contours, the second one without its last edge", append(round(0), round(1)[:2]...), false},
		{"two contours, the second one without its first edge", append(round(0), round(1)[1:]...), false},
		{"a contour that goes on in another one", append(round(0)[:1], round(1)[1:]...), false},
		{"a contour whose last edge is another one's", append(round(0)[:2], round(1)[2]), false},
		{"two contours of a place that don't meet", append(round(0), line(0, 1, 1, 2, 2), line(0, 2, 2, 1, 1)), false},
		{"two contours of a place that meet where they begin", append(round(0), line(0, 0, 0, 2, 2), line(0, 2, 2, 0, 0)), true},
		{"lines with a B", []api.Edge{{A: pt(1, 1), B: pt(7, 8), C: pt(2, 2)}, {A: pt(2, 2), C: pt(1, 1)}}, true},
		{"far off", []api.Edge{line(0, math.MaxInt, math.MinInt, 0, 0), line(0, 0, 0, math.MaxInt, math.MinInt)}, true},
		{"x apart", []api.Edge{line(0, 1, 2, 3, 4), line(0, 4, 4, 1, 2)}, false},
		{"y apart", []api.Edge{line(0, 1, 2, 3, 4), line(0, 3, 5, 1, 2)}, false},
		{"x apart at the end", []api.Edge{line(0, 1, 2, 3, 4), line(0, 3, 4, 2, 2)}, false},
		{"y apart at the end", []api.Edge{line(0, 1, 2, 3, 4), line(0, 3, 4, 1, 1)}, false},
		{"turned round", []api.Edge{line(0, 3, 4, 1, 2), line(0, 5, 6, 3, 4), line(0, 1, 2, 5, 6)}, false},
	} {
		if got := edge.Closed(c.l); got != c.want {
			t.Errorf("%s: %t", c.name, got)
		}
		check(t, c.l)
	}
}

func TestMay(t *testing.T) {
	there := line(0, 1, 2, 3, 4)
	for _, c := range []struct {
		name string
		l    []api.Edge
		want bool
	}{
		{"there and back", []api.Edge{there, back(there)}, true},
		{"of any place", []api.Edge{line(-9, 1, 2, 3, 4), line(-9, 3, 4, 1, 2)}, true},
		{"there", []api.Edge{there}, false},
		{"of two places", []api.Edge{there, line(1, 3, 4, 1, 2)}, false},
		{"a curve", []api.Edge{quad(0, 1, 2, 3, 4, 1, 2)}, true},
		{"a curve whose B is 0, 0", []api.Edge{quad(0, 1, 2, 0, 0, 1, 2)}, true},
		{"a curve that isn't closed", []api.Edge{quad(0, 1, 2, 3, 4, 5, 6)}, false},
		{"a line that is a point", []api.Edge{line(0, 1, 2, 1, 2)}, false},
		{"a line that is the point 0, 0", []api.Edge{line(0, 0, 0, 0, 0)}, false},
		{"a curve that is a point", []api.Edge{quad(0, 1, 2, 1, 2, 1, 2)}, false},
		{"a curve that is the point 0, 0", []api.Edge{quad(0, 0, 0, 0, 0, 0, 0)}, false},
		{"a point among others", []api.Edge{there, line(0, 3, 4, 3, 4), back(there)}, false},
		{"a curve that is a point, among others", []api.Edge{there, quad(0, 3, 4, 3, 4, 3, 4), back(there)}, false},
		{"a curve from its B", []api.Edge{quad(0, 3, 4, 3, 4, 1, 2), there}, true},
		{"a curve to its B", []api.Edge{quad(0, 3, 4, 1, 2, 1, 2), there}, true},
		{"a curve that differs in x alone", []api.Edge{quad(0, 3, 4, 1, 4, 3, 4)}, true},
		{"a curve that differs in y alone", []api.Edge{quad(0, 3, 4, 3, 2, 3, 4)}, true},
		{"a line's B, to the right", []api.Edge{{A: there.A, B: pt(1, 0), C: there.C}, back(there)}, false},
		{"a line's B, upwards", []api.Edge{there, {A: there.C, B: pt(0, -1), C: there.A}}, false},
		{"a line's B where it begins", []api.Edge{{A: there.A, B: there.A, C: there.C}, back(there)}, false},
		{"two contours", []api.Edge{there, back(there), line(1, 5, 6, 7, 8), line(1, 7, 8, 5, 6)}, true},
		{"two contours, the second one not closed", []api.Edge{there, back(there), line(1, 5, 6, 7, 8)}, false},
	} {
		if got := edge.May(c.l); got != c.want {
			t.Errorf("%s: %t", c.name, got)
		}
		check(t, c.l)
	}
}

// How many edges may be.
func TestMayMany(t *testing.T) {
	for n, want := range map[int]bool{1: true, 4096: true, 4097: true, 8191: true, 8192: true, 8193: false, 8194: false, 20000: false} {
		one := slices.Repeat([]api.Edge{quad(0, 1, 2, 3, 4, 1, 2)}, n)
		own := slices.Clone(one)
		for i := range own {
			own[i].Contour = i
		}
		if edge.May(one) != want || edge.May(own) != want {
			t.Errorf("%d edges: %t and %t", n, edge.May(one), edge.May(own))
		}
		check(t, one)
		check(t, own)
	}
}

// How far off points may be: each number of an edge by itself.
func TestMayFar(t *testing.T) {
	const most = 1 << 25
	for _, isQuad := range []bool{false, true} {
		for k := range 6 {
			for _, n := range append([]int{most, -most, most + 1, -most - 1, most - 1, 2 * most, 0, 1}, far...) {
				e := quad(0, 1, 2, 3, 4, 5, 6)
				if !isQuad {
					e = line(0, 1, 2, 5, 6)
				}
				*number(&e, k) = n
				l := []api.Edge{e, back(e)}
				want := n >= -most && n <= most
				if !isQuad && k/2 == 1 {
					want = n == 0
				}
				if got := edge.May(l); got != want {
					t.Errorf("%v: %t", l, got)
				}
				check(t, l)
			}
		}
	}
}

// All contours of up to five points, of a few that differ in little.
func TestAll(t *testing.T) {
	kinds := []api.Point{on(0, 0), off(0, 0), on(1, 0), off(1, 0), on(-2, 3), off(-2, 3)}
	var contours [][]api.Point
	var grow func(contour []api.Point)
	grow = func(contour []api.Point) {
		if len(contour) > 0 {
			checkEdges(t, [][]api.Point{contour}, 1+len(contours)%128)
			contours = append(contours, contour)
		}
		if len(contour) < 5 {
			for _, p := range kinds {
				grow(append(slices.Clone(contour), p))
			}
		}
	}
	grow(nil)
	if want := 6 + 6*6 + 6*6*6 + 6*6*6*6 + 6*6*6*6*6; len(contours) != want {
		t.Errorf("%d contours; want %d", len(contours), want)
	}
	for i := range len(contours) / 20 {
		checkEdges(t, contours[20*i:20*i+20], 1+i%128)
	}
}

// anyContours is contours, some of whose points are the same.
func anyContours(r *rand.Rand) [][]api.Point {
	wide := []int{1, 2, 5, 300, 32767}[r.Intn(5)]
	l := make([][]api.Point, r.Intn(5))
	for i := range l {
		share := r.Intn(5)
		for range 1 + r.Intn(1<<r.Intn(8)) {
			p := api.Point{X: r.Intn(2*wide+1) - wide, Y: r.Intn(2*wide+1) - wide, On: r.Intn(4) < share}
			l[i] = append(l[i], p)
		}
	}
	return l
}

func TestRandom(t *testing.T) {
	r := rand.New(rand.NewSource(16))
	lines, quads := 0, 0
	for range 20000 {
		l, px := anyContours(r), r.Intn(128)+1
		checkEdges(t, l, px)
		got, _ := edge.Edges(l, px)
		for _, e := range got {
			if e.Quad {
				quads++
			} else {
				lines++
			}
		}
	}
	if lines == 0 || quads == 0 {
		t.Errorf("%d lines and %d curves", lines, quads)
	}
}

// spoil changes something of edges.
func spoil(r *rand.Rand, l []api.Edge) []api.Edge {
	if len(l) == 0 {
		return l
	}
	i := r.Intn(len(l))
	e := &l[i]
	switch r.Intn(8) {
	case 0:
		return slices.Delete(l, i, i+1)
	case 1:
		return slices.Insert(l, i, l[r.Intn(len(l))])
	case 2:
		e.Contour = r.Intn(4) - 1
	case 3:
		e.Quad = !e.Quad
	case 4:
		j := r.Intn(len(l))
		l[i], l[j] = l[j], l[i]
	case 5:
		n := append([]int{1<<25 + 1, -1<<25 - 1, 1 << 25, 0}, far...)[r.Intn(4+len(far))]
		*number(e, r.Intn(6)) = n
	case 6:
		return slices.Concat(l[i:], l[:i])
	default:
		e.C = e.A
	}
	return l
}

// Edges of contours, with something changed.
func TestSpoilt(t *testing.T) {
	r := rand.New(rand.NewSource(17))
	shut, open, fine, wrong := 0, 0, 0, 0
	for range 50000 {
		l, _ := edges(anyContours(r), r.Intn(128)+1)
		if len(l) > 40 {
			continue
		}
		for range r.Intn(3) {
			l = spoil(r, l)
		}
		isClosed, isFine := check(t, l)
		if isClosed {
			shut++
		} else {
			open++
		}
		if isFine {
			fine++
		} else if isClosed {
			wrong++
		}
	}
	if min(shut, open, fine, wrong) < 500 {
		t.Errorf("%d closed, %d not; %d may be, %d that are closed may not be", shut, open, fine, wrong)
	}
}

// What is handed in isn't changed, and what is answered shares no memory with it, nor with another answer.
func TestOwn(t *testing.T) {
	l := [][]api.Point{{on(1, 2), off(3, 4), off(5, 6)}, {on(0, 0), on(0, 0), on(7, 8)}}
	var kept [][]api.Point
	for _, contour := range l {
		kept = append(kept, slices.Clone(contour))
	}
	want, _ := edges(l, 5)
	got, _ := edge.Edges(l, 5)
	again, _ := edge.Edges(l, 5)
	for i, full := 0, got[:cap(got)]; i < len(full); i++ {
		full[i] = line(9, 9, 9, 9, 9)
	}
	if !slices.Equal(again, want) || !slices.EqualFunc(l, kept, slices.Equal) {
		t.Fatal("two answers share memory, or what was handed in was changed")
	}
	before := slices.Clone(again)
	edge.Box(again)
	edge.Closed(again)
	edge.May(again)
	if !slices.Equal(again, before) {
		t.Fatal("edges that were handed in were changed")
	}
	// What stands behind a list's end plays no role.
	for n := range again {
		check(t, again[:n])
	}
	first := slices.Concat(l...)[:3]
	if short, _ := edge.Edges([][]api.Point{first}, 5); !slices.Equal(short, want[:len(short)]) || len(short) != 2 {
		t.Fatalf("more than the contour was gone along: %v", short)
	}
}
