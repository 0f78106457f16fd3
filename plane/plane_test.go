package plane_test

import (
	"math"
	"math/rand"
	"testing"

	"pochoir/api"
	"pochoir/plane"
)

// far are numbers that are far from all bounds, or that are within them once they go round.
var far = []int{math.MinInt, math.MinInt + 1, -1<<62 + 1, -1 << 62, 1 << 62, -1<<32 + 1, -1 << 32, 1 << 32, 1<<32 + 1, -1 << 31, 1 << 31, 1<<31 - 1, -1 << 26, 1 << 26, math.MaxInt - 1, math.MaxInt}

// pt is a point.
func pt(x, y int) api.Pt {
	return api.Pt{X: x, Y: y}
}

// errno is what a call must answer of these points, beside what it tells.
func errno(l ...api.Pt) api.Errno {
	if !allMay(l) {
		return api.ErrArg
	}
	return api.OK
}

// check holds the calls of one, two and three points against the chapter's words.
func check(t *testing.T, a, b, c api.Pt) {
	t.Helper()
	if got := plane.May(a); got != may(a) {
		t.Fatalf("May(%v) = %t", a, got)
	}
	var wantCross, wantDot, wantFar int64
	var wantTurn int
	var wantBetween bool
	want, wantOfTwo := errno(a, b, c), errno(a, b)
	if want == api.OK {
		wantCross, wantDot, wantTurn, wantBetween = cross(a, b, c).Int64(), dot(a, b, c).Int64(), cross(a, b, c).Sign(), between(a, b, c)
	}
	if wantOfTwo == api.OK {
		wantFar = dot(a, b, b).Int64()
	}
	if got, e := plane.Cross(a, b, c); got != wantCross || e != want {
		t.Fatalf("Cross(%v, %v, %v) = %d, %d; want %d, %d", a, b, c, got, e, wantCross, want)
	}
	if got, e := plane.Dot(a, b, c); got != wantDot || e != want {
		t.Fatalf("Dot(%v, %v, %v) = %d, %d; want %d, %d", a, b, c, got, e, wantDot, want)
	}
	if got, e := plane.Far(a, b); got != wantFar || e != wantOfTwo {
		t.Fatalf("Far(%v, %v) = %d, %d; want %d, %d", a, b, got, e, wantFar, wantOfTwo)
	}
	if got, e := plane.Turn(a, b, c); got != wantTurn || e != want {
		t.Fatalf("Turn(%v, %v, %v) = %d, %d; want %d, %d", a, b, c, got, e, wantTurn, want)
	}
	if got, e := plane.Between(a, b, c); got != wantBetween || e != want {
		t.Fatalf("Between(%v, %v, %v) = %t, %d; want %t, %d", a, b, c, got, e, wantBetween, want)
	}
}

// checkMeet holds Meet against the chapter's words.
func checkMeet(t *testing.T, a, b, c, d api.Pt) bool {
	t.Helper()
	want, wantErr := false, errno(a, b, c, d)
	if wantErr == api.OK {
		want = meet(a, b, c, d)
	}
	if got, e := plane.Meet(a, b, c, d); got != want || e != wantErr {
		t.Fatalf("Meet(%v, %v, %v, %v) = %t, %d; want %t, %d", a, b, c, d, got, e, want, wantErr)
	}
	return want
}

// grid is all points whose x and y are of these numbers.
func grid(l ...int) []api.Pt {
	var out []api.Pt
	for _, y := range l {
		for _, x := range l {
			out = append(out, pt(x, y))
		}
	}
	return out
}

func TestExample(t *testing.T) {
	if got, e := plane.Turn(pt(0, 0), pt(5, 0), pt(0, 5)); got != 1 || e != api.OK {
		t.Errorf("%d, %d", got, e)
	}
}

// How far off a point may be, in x and in y.
func TestMay(t *testing.T) {
	for n, want := range map[int]bool{0: true, 1: true, -1: true, most - 1: true, most: true, most + 1: false, 1 - most: true, -most: true, -most - 1: false, 2 * most: false, -2 * most: false} {
		for _, p := range []api.Pt{pt(n, 0), pt(0, n), pt(n, n), pt(n, most), pt(-most, n)} {
			if got := plane.May(p); got != want {
				t.Errorf("May(%v) = %t", p, got)
			}
		}
	}
	for _, n := range far {
		for _, p := range []api.Pt{pt(n, 0), pt(0, n), pt(n, n), pt(n, most), pt(-most, n)} {
			if plane.May(p) {
				t.Errorf("May(%v) = true", p)
			}
		}
	}
}

// Three points, with all that is told of them written out.
func TestThree(t *testing.T) {
	const m = most
	for _, c := range []struct {
		name            string
		a, b, c         api.Pt
		cross, dot, far int64
		turn            int
		between         bool
	}{
		{"to the left", pt(0, 0), pt(5, 0), pt(0, 5), 25, 0, 25, 1, false},
		{"to the right", pt(0, 0), pt(5, 0), pt(0, -5), -25, 0, 25, -1, false},
		{"to the left of a way upwards", pt(0, 0), pt(0, 5), pt(-3, 9), 15, 45, 25, 1, false},
		{"to the right of a way downwards", pt(0, 5), pt(0, 0), pt(-3, 9), -15, -20, 25, -1, false},
		{"not from 0, 0", pt(2, 3), pt(5, 7), pt(-4, 4), 3*1 - 4*-6, 3*-6 + 4*1, 25, 1, false},
		{"straight ahead", pt(1, 1), pt(3, 2), pt(5, 3), 0, 10, 5, 0, false},
		{"straight behind", pt(1, 1), pt(3, 2), pt(-1, 0), 0, -5, 5, 0, false},
		{"where it begins", pt(1, 1), pt(3, 2), pt(1, 1), 0, 0, 5, 0, true},
		{"where it ends", pt(1, 1), pt(3, 2), pt(3, 2), 0, 5, 5, 0, true},
		{"in the middle", pt(1, 1), pt(5, 3), pt(3, 2), 0, 10, 20, 0, true},
		{"in the middle of a level way", pt(5, 1), pt(1, 1), pt(2, 1), 0, 12, 16, 0, true},
		{"in the middle of a way upwards", pt(1, 1), pt(1, 5), pt(1, 2), 0, 4, 16, 0, true},
		{"one ahead, level", pt(1, 1), pt(5, 1), pt(6, 1), 0, 20, 16, 0, false},
		{"one behind, level", pt(1, 1), pt(5, 1), pt(0, 1), 0, -4, 16, 0, false},
		{"one ahead, upwards", pt(1, 1), pt(1, 5), pt(1, 6), 0, 20, 16, 0, false},
		{"one behind, upwards", pt(1, 1), pt(1, 5), pt(1, 0), 0, -4, 16, 0, false},
		{"beside the middle", pt(0, 0), pt(4, 2), pt(2, 2), 4, 12, 20, 1, false},
		{"no way", pt(7, 8), pt(7, 8), pt(9, 9), 0, 0, 0, 0, false},
		{"no way, in x alone", pt(7, 8), pt(7, 8), pt(9, 8), 0, 0, 0, 0, false},
		{"no way, in y alone", pt(7, 8), pt(7, 8), pt(7, 9), 0, 0, 0, 0, false},
		{"all the same", pt(7, 8), pt(7, 8), pt(7, 8), 0, 0, 0, 0, true},
		{"all 0, 0", pt(0, 0), pt(0, 0), pt(0, 0), 0, 0, 0, 0, true},
		{"the greatest Cross", pt(-m, -m), pt(m, -m), pt(-m, m), 1 << 52, 0, 1 << 52, 1, false},
		{"the least Cross", pt(-m, -m), pt(-m, m), pt(m, -m), -1 << 52, 0, 1 << 52, -1, false},
		{"the greatest Dot and Far", pt(-m, -m), pt(m, m), pt(m, m), 0, 1 << 53, 1 << 53, 0, true},
		{"the least Dot", pt(0, 0), pt(m, m), pt(-m, -m), 0, -1 << 51, 1 << 51, 0, false},
		{"in the middle of the longest way", pt(m, -m), pt(-m, m), pt(0, 0), 0, 1 << 52, 1 << 53, 0, true},
		{"hardly to the left", pt(-m, -m), pt(m, m-1), pt(0, 0), m, 4*m*m - m, 4*m*m + (2*m-1)*(2*m-1), 1, false},
		{"hardly to the right, at the end", pt(-m, -m), pt(m, m-1), pt(m-1, m-2), -1, 2*m*(2*m-1) + (2*m-1)*(2*m-2), 4*m*m + (2*m-1)*(2*m-1), -1, false},
		{"hardly to the left, where it begins", pt(-m, -m), pt(m, m-1), pt(1-m, 1-m), 1, 4*m - 1, 4*m*m + (2*m-1)*(2*m-1), 1, false},
	} {
		check(t, c.a, c.b, c.c)
		if got, e := plane.Cross(c.a, c.b, c.c); got != c.cross || e != api.OK {
			t.Errorf("%s: Cross %d, %d; want %d", c.name, got, e, c.cross)
		}
		if got, e := plane.Dot(c.a, c.b, c.c); got != c.dot || e != api.OK {
			t.Errorf("%s: Dot %d, %d; want %d", c.name, got, e, c.dot)
		}
		if got, e := plane.Far(c.a, c.b); got != c.far || e != api.OK {
			t.Errorf("%s: Far %d, %d; want %d", c.name, got, e, c.far)
		}
		if got, e := plane.Turn(c.a, c.b, c.c); got != c.turn || e != api.OK {
			t.Errorf("%s: Turn %d, %d; want %d", c.name, got, e, c.turn)
		}
		if got, e := plane.Between(c.a, c.b, c.c); got != c.between || e != api.OK {
			t.Errorf("%s: Between %t, %d; want %t", c.name, got, e, c.between)
		}
	}
}

// Two lines, each told both ways round, and the two in both orders.
func TestMeet(t *testing.T) {
	const m = most
	for _, c := range []struct {
		name       string
		a, b, c, d api.Pt
		want       bool
	}{
		{"crossing", pt(0, 0), pt(4, 4), pt(0, 4), pt(4, 0), true},
		{"crossing where no whole numbers are", pt(0, 0), pt(3, 3), pt(0, 1), pt(1, 0), true},
		{"crossing, level and upwards", pt(-3, 0), pt(3, 0), pt(1, -1), pt(1, 5), true},
		{"an end on the middle", pt(0, 0), pt(4, 0), pt(2, 0), pt(2, 7), true},
		{"an end above the middle", pt(0, 0), pt(4, 0), pt(2, 1), pt(2, 7), false},
		{"an end on an end", pt(0, 0), pt(4, 0), pt(4, 0), pt(9, 7), true},
		{"an end beyond an end", pt(0, 0), pt(4, 0), pt(5, 0), pt(9, 7), false},
		{"crossing the way beyond the end", pt(0, 0), pt(4, 0), pt(5, -1), pt(5, 1), false},
		{"crossing the way ahead of where it begins", pt(0, 0), pt(4, 0), pt(-1, -1), pt(-1, 1), false},
		{"not so far as the other one", pt(0, 0), pt(4, 0), pt(2, 5), pt(2, 1), false},
		{"side by side", pt(0, 0), pt(4, 2), pt(0, 1), pt(4, 3), false},
		{"one behind the other", pt(0, 0), pt(2, 1), pt(4, 2), pt(6, 3), false},
		{"one behind the other, level", pt(0, 0), pt(2, 0), pt(3, 0), pt(6, 0), false},
		{"one behind the other, upwards", pt(0, 0), pt(0, 2), pt(0, 3), pt(0, 6), false},
		{"one behind the other, with an end in common", pt(0, 0), pt(2, 1), pt(2, 1), pt(6, 3), true},
		{"one partly on the other", pt(0, 0), pt(4, 2), pt(2, 1), pt(6, 3), true},
		{"one within the other", pt(0, 0), pt(6, 3), pt(2, 1), pt(4, 2), true},
		{"one within the other, from one end", pt(0, 0), pt(6, 3), pt(0, 0), pt(4, 2), true},
		{"the same", pt(1, 2), pt(6, 3), pt(1, 2), pt(6, 3), true},
		{"a point on a line", pt(0, 0), pt(6, 3), pt(2, 1), pt(2, 1), true},
		{"a point on an end", pt(0, 0), pt(6, 3), pt(6, 3), pt(6, 3), true},
		{"a point beside a line", pt(0, 0), pt(6, 3), pt(2, 2), pt(2, 2), false},
		{"a point beyond an end", pt(0, 0), pt(6, 3), pt(8, 4), pt(8, 4), false},
		{"a point and the same one", pt(3, 4), pt(3, 4), pt(3, 4), pt(3, 4), true},
		{"a point and another one", pt(3, 4), pt(3, 4), pt(3, 5), pt(3, 5), false},
		{"the two longest", pt(-m, -m), pt(m, m), pt(-m, m), pt(m, -m), true},
		{"two sides", pt(-m, -m), pt(m, -m), pt(-m, m), pt(m, m), false},
		{"two sides with a corner", pt(-m, -m), pt(m, -m), pt(-m, m), pt(-m, -m), true},
		{"hardly past each other", pt(-m, -m), pt(m, m-1), pt(1-m, 1-m), pt(m-1, m-1), false},
		{"hardly crossing", pt(-m, -m), pt(m, m-1), pt(1-m, 1-m), pt(m-1, m-2), true},
		{"hardly not meeting", pt(-m, -m), pt(m, m-1), pt(m-1, m-2), pt(m, -m), false},
	} {
		for _, l := range [][4]api.Pt{{c.a, c.b, c.c, c.d}, {c.b, c.a, c.c, c.d}, {c.a, c.b, c.d, c.c}, {c.b, c.a, c.d, c.c}} {
			if got, e := plane.Meet(l[0], l[1], l[2], l[3]); got != c.want || e != api.OK {
				t.Errorf("%s: %v: %t, %d", c.name, l, got, e)
			}
			if got, e := plane.Meet(l[2], l[3], l[0], l[1]); got != c.want || e != api.OK {
				t.Errorf("%s, in the other order: %v: %t, %d", c.name, l, got, e)
			}
			checkMeet(t, l[0], l[1], l[2], l[3])
		}
	}
}

// Each number of each point by itself at its bounds and beyond them, the others at theirs, or anywhere.
func TestArguments(t *testing.T) {
	for _, base := range []api.Pt{pt(0, 0), pt(1, -2), pt(most, most), pt(-most, most)} {
		for i := range 8 {
			for _, n := range append([]int{most, -most, most + 1, -most - 1, most - 1}, far...) {
				l := [4]api.Pt{base, base, base, base}
				if i%2 == 0 {
					l[i/2].X = n
				} else {
					l[i/2].Y = n
				}
				check(t, l[0], l[1], l[2])
				checkMeet(t, l[0], l[1], l[2], l[3])
				want := api.OK
				if n < -most || n > most {
					want = api.ErrArg
				}
				if got, e := plane.Meet(l[0], l[1], l[2], l[3]); e != want || e != api.OK && got {
					t.Errorf("Meet of %v: %t, %d", l, got, e)
				}
				if i >= 6 {
					continue
				}
				if got, e := plane.Between(l[0], l[1], l[2]); e != want || e != api.OK && got {
					t.Errorf("Between of %v: %t, %d", l, got, e)
				}
			}
		}
	}
	// All points that may not be, at once: the differences go round.
	for _, p := range grid(math.MinInt, math.MaxInt, 0) {
		for _, q := range grid(math.MinInt, math.MaxInt, 0) {
			check(t, p, q, p)
			check(t, p, q, q)
			checkMeet(t, p, q, p, q)
			checkMeet(t, p, p, q, q)
		}
	}
}

// All three points of small grids, near 0 and at the bounds.
func TestAllThree(t *testing.T) {
	for _, l := range [][]int{{-2, -1, 0, 1, 2}, {-most, 1 - most, -1, 0, most}, {0, 1, 2, most - 1, most}, {-most - 1, -most, 0, most, most + 1}} {
		points := grid(l...)
		for _, a := range points {
			for _, b := range points {
				for _, c := range points {
					check(t, a, b, c)
				}
			}
		}
	}
}

// All two lines of small grids, near 0 and at the bounds.
func TestAllMeet(t *testing.T) {
	for _, l := range [][]int{{-1, 0, 1, 2}, {-most, 0, most - 1, most}, {-most - 1, 0, most}} {
		points := grid(l...)
		yes, no := 0, 0
		for _, a := range points {
			for _, b := range points {
				for _, c := range points {
					for _, d := range points {
						if checkMeet(t, a, b, c, d) {
							yes++
						} else {
							no++
						}
					}
				}
			}
		}
		if min(yes, no) < len(points)*len(points) {
			t.Errorf("of %v: %d meet, %d don't", l, yes, no)
		}
	}
}

// anyPt is a point that may be, up to so far off.
func anyPt(r *rand.Rand, wide int) api.Pt {
	return pt(r.Intn(2*wide+1)-wide, r.Intn(2*wide+1)-wide)
}

// near is a point that may be, hardly off another one.
func near(r *rand.Rand, p api.Pt, wide int) api.Pt {
	x, y := p.X+r.Intn(2*wide+1)-wide, p.Y+r.Intn(2*wide+1)-wide
	return pt(max(-most, min(most, x)), max(-most, min(most, y)))
}

// on is a point on the line from a to b, rounded.
func on(r *rand.Rand, a, b api.Pt) api.Pt {
	n := 1 + r.Intn(1<<r.Intn(24))
	k := r.Intn(n + 1)
	return pt(a.X+(b.X-a.X)*k/n, a.Y+(b.Y-a.Y)*k/n)
}

func TestRandom(t *testing.T) {
	r := rand.New(rand.NewSource(18))
	meets, apart, upon, beside := 0, 0, 0, 0
	for range 100000 {
		wide := []int{3, 10, 1000, most}[r.Intn(4)]
		a, b, c, d := anyPt(r, wide), anyPt(r, wide), anyPt(r, wide), anyPt(r, wide)
		switch r.Intn(4) {
		case 0:
			c = near(r, on(r, a, b), r.Intn(3))
		case 1:
			c, d = near(r, a, 2), near(r, b, 2)
		case 2:
			b = near(r, a, 3)
		}
		check(t, a, b, c)
		check(t, d, c, b)
		if checkMeet(t, a, b, c, d) {
			meets++
		} else {
			apart++
		}
		if between(a, b, c) {
			upon++
		} else if cross(a, b, c).CmpAbs(num(2*wide)) <= 0 {
			beside++
		}
	}
	if min(meets, apart, upon, beside) < 5000 {
		t.Errorf("%d meet, %d don't; %d on a line, %d hardly beside it", meets, apart, upon, beside)
	}
}
