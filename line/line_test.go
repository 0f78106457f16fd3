package line_test

import (
	"math"
	"math/big"
	"math/rand"
	"testing"

	"pochoir/api"
	"pochoir/line"
)

const word = math.MaxUint64

// far are numbers that are far from all bounds, or that are within them once they go round.
var far = []int{math.MinInt, math.MinInt + 1, -1 << 62, 1 << 62, -1 << 32, 1 << 32, 1<<32 + 1, -1 << 31, 1 << 31, 1<<31 - 1, math.MaxInt - 1, math.MaxInt}

// pt is a point.
func pt(x, y int) api.Pt {
	return api.Pt{X: x, Y: y}
}

// low is a Wide of 64 bits.
func low(n uint64) api.Wide {
	return api.Wide{Lo: n}
}

// check holds the calls of points against the chapter's words, with the line told both ways round.
func check(t *testing.T, p, a, b api.Pt, r, n int) {
	t.Helper()
	want, wantErr := point(p, a, r, n)
	if got, e := line.Point(p, a, r, n); got != want || e != wantErr {
		t.Fatalf("Point(%v, %v, %d, %d) = %d, %d; want %d, %d", p, a, r, n, got, e, want, wantErr)
	}
	want, wantErr = segment(p, a, b, r, n)
	if got, e := line.Segment(p, a, b, r, n); got != want || e != wantErr {
		t.Fatalf("Segment(%v, %v, %v, %d, %d) = %d, %d; want %d, %d", p, a, b, r, n, got, e, want, wantErr)
	}
	if got, e := line.Segment(p, b, a, r, n); got != want || e != wantErr {
		t.Fatalf("Segment(%v, %v, %v, %d, %d) = %d, %d; want %d, %d", p, b, a, r, n, got, e, want, wantErr)
	}
	want, wantErr = ray(p, a, b, r, n)
	if got, e := line.Ray(p, a, b, r, n); got != want || e != wantErr {
		t.Fatalf("Ray(%v, %v, %v, %d, %d) = %d, %d; want %d, %d", p, a, b, r, n, got, e, want, wantErr)
	}
}

// checkOf holds Of against the chapter's words.
func checkOf(t *testing.T, square, by api.Wide, r, n int) {
	t.Helper()
	want, wantErr := of(square, by, r, n)
	if got, e := line.Of(square, by, r, n); got != want || e != wantErr {
		t.Fatalf("Of(%v, %v, %d, %d) = %d, %d; want %d, %d", square, by, r, n, got, e, want, wantErr)
	}
}

func TestExample(t *testing.T) {
	if got, e := line.Segment(pt(0, 3), pt(-5, 0), pt(5, 0), 4, 4); got != 3 || e != api.OK {
		t.Errorf("%d, %d", got, e)
	}
}

func TestPoint(t *testing.T) {
	const m = mostFine
	for _, c := range []struct {
		name string
		p, a api.Pt
		r, n int
		want int
	}{
		{"the same", pt(3, 4), pt(3, 4), 1, 255, 0},
		{"a whole distance", pt(0, 0), pt(3, 4), 10, 10, 5},
		{"a whole distance, hardly above a step", pt(0, 0), pt(3, 4), 9, 9, 5},
		{"hardly below a step", pt(0, 0), pt(2, 4), 10, 10, 4},
		{"hardly above a step", pt(0, 0), pt(1, 5), 10, 10, 5},
		{"the root of 2, in 255 steps", pt(1, 0), pt(0, 1), 2, 255, 180},
		{"the whole reach", pt(-3, 1), pt(0, 5), 5, 7, 7},
		{"hardly below the reach", pt(0, 0), pt(2, 4), 5, 7, 6},
		{"beyond the reach", pt(0, 0), pt(30, 40), 5, 7, 7},
		{"steps of less than 1", pt(0, 0), pt(0, 1), 2, 255, 127},
		{"one step, not held", pt(0, 0), pt(0, 4), 5, 1, 0},
		{"one step, held", pt(0, 0), pt(0, 5), 5, 1, 1},
		{"a reach of 1", pt(0, 0), pt(0, 1), 1, 255, 255},
		{"the greatest reach, not held", pt(0, 0), pt(1<<20-1, 0), mostReach, 255, 254},
		{"the greatest reach, held", pt(0, 0), pt(1<<20, 0), mostReach, 255, 255},
		{"a step of the greatest reach, not held", pt(0, 0), pt(4111, 0), mostReach, 255, 0},
		{"a step of the greatest reach, held", pt(0, 0), pt(4113, 0), mostReach, 255, 1},
		{"as far as may be", pt(-m, -m), pt(m, m), mostReach, 255, 255},
		{"as far as may be, in single steps", pt(-m, m), pt(m, -m), 1, 1, 1},
	} {
		if got, e := line.Point(c.p, c.a, c.r, c.n); got != c.want || e != api.OK {
			t.Errorf("%s: %d, %d; want %d", c.name, got, e, c.want)
		}
		if got, e := line.Point(c.a, c.p, c.r, c.n); got != c.want || e != api.OK {
			t.Errorf("%s, the other way round: %d, %d; want %d", c.name, got, e, c.want)
		}
		check(t, c.p, c.a, c.a, c.r, c.n)
	}
}

// Segment and Ray, where p is behind a line, beside it, and ahead of it.
func TestLines(t *testing.T) {
	const m = mostFine
	for _, c := range []struct {
		name         string
		p, a, b      api.Pt
		r, n         int
		segment, ray int
	}{
		{"beside the middle", pt(0, 3), pt(-5, 0), pt(5, 0), 4, 4, 3, 3},
		{"on the other side", pt(0, -3), pt(-5, 0), pt(5, 0), 4, 4, 3, 3},
		{"on the line", pt(1, 1), pt(-5, -5), pt(5, 5), 1, 255, 0, 0},
		{"at the beginning", pt(-5, -5), pt(-5, -5), pt(5, 5), 1, 255, 0, 0},
		{"at the end", pt(5, 5), pt(-5, -5), pt(5, 5), 1, 255, 0, 0},
		{"beside the beginning", pt(-5, 7), pt(-5, 0), pt(5, 0), 10, 10, 7, 7},
		{"beside the end", pt(5, 7), pt(-5, 0), pt(5, 0), 10, 10, 7, 7},
		{"behind the beginning", pt(-8, 4), pt(-5, 0), pt(5, 0), 10, 10, 5, 5},
		{"straight behind the beginning", pt(-9, 0), pt(-5, 0), pt(5, 0), 10, 10, 4, 4},
		{"ahead of the end", pt(8, 4), pt(-5, 0), pt(5, 0), 10, 10, 5, 4},
		{"straight ahead of the end", pt(9, 0), pt(-5, 0), pt(5, 0), 10, 10, 4, 0},
		{"far ahead of the end", pt(100, 3), pt(0, 0), pt(1, 0), 10, 10, 10, 3},
		{"beside a way up to the left", pt(0, 1), pt(3, 0), pt(0, 3), 10, 100, 14, 14},
		{"beside a way that isn't level", pt(2, 2), pt(0, 0), pt(4, 3), 10, 100, 4, 4},
		{"hardly beside such a way", pt(3, 2), pt(0, 0), pt(4, 3), 1, 255, 51, 51},
		{"a line that is a point", pt(3, 4), pt(0, 0), pt(0, 0), 10, 10, 5, 5},
		{"a line that is the point itself", pt(3, 4), pt(3, 4), pt(3, 4), 1, 255, 0, 0},
		{"the greatest cross", pt(-m, m), pt(-m, -m), pt(m, -m), mostReach, 255, 255, 255},
		{"hardly beside the longest line", pt(0, 1), pt(-m, -m), pt(m, m), 1, 255, 180, 180},
		{"hardly beside a longest line, near its end", pt(m-1, m-2), pt(-m, -m), pt(m, m-1), 1, 255, 0, 0},
		{"a short line, seen from as far as may be", pt(m, m), pt(-m, -m), pt(-m, 1-m), mostReach, 255, 255, 255},
		{"a short line, seen from as far ahead as may be", pt(m, m), pt(-m, m), pt(1-m, m), mostReach, 255, 255, 0},
	} {
		if got, e := line.Segment(c.p, c.a, c.b, c.r, c.n); got != c.segment || e != api.OK {
			t.Errorf("%s: Segment %d, %d; want %d", c.name, got, e, c.segment)
		}
		if got, e := line.Ray(c.p, c.a, c.b, c.r, c.n); got != c.ray || e != api.OK {
			t.Errorf("%s: Ray %d, %d; want %d", c.name, got, e, c.ray)
		}
		check(t, c.p, c.a, c.b, c.r, c.n)
		check(t, c.p, c.b, c.a, c.r, c.n)
	}
}

func TestOf(t *testing.T) {
	most := api.Wide{Hi: word, Lo: word}
	for _, c := range []struct {
		name       string
		square, by api.Wide
		r, n       int
		want       int
		e          api.Errno
	}{
		{"0", low(0), low(1), 1, 255, 0, api.OK},
		{"0 by the greatest", low(0), most, 1, 255, 0, api.OK},
		{"a whole root", low(50), low(2), 10, 10, 5, api.OK},
		{"hardly below a whole root", low(49), low(2), 10, 10, 4, api.OK},
		{"the whole reach", low(200), low(2), 10, 10, 10, api.OK},
		{"hardly below the reach", low(199), low(2), 10, 10, 9, api.OK},
		{"beyond the reach", low(20000), low(2), 10, 10, 10, api.OK},
		{"the greatest by 1", most, low(1), mostReach, 255, 255, api.OK},
		{"1 by the greatest", low(1), most, 1, 255, 0, api.OK},
		{"the greatest by itself", most, most, 1, 255, 255, api.OK},
		{"the greatest by itself, a reach of 2", most, most, 2, 255, 127, api.OK},
		{"the greatest by itself, the greatest reach", most, most, mostReach, 255, 0, api.OK},
		{"hardly less than the greatest", api.Wide{Hi: word, Lo: word - 1}, most, 1, 255, 254, api.OK},
		{"2^40 times as great", api.Wide{Hi: 1 << 40}, api.Wide{Hi: 1}, mostReach, 255, 255, api.OK},
		{"hardly less than 2^40 times as great", api.Wide{Hi: 1<<40 - 1, Lo: word}, api.Wide{Hi: 1}, mostReach, 255, 254, api.OK},
		{"2^40 times as great, hardly", api.Wide{Hi: 1 << 40}, api.Wide{Hi: 1, Lo: 1}, mostReach, 255, 254, api.OK},
		{"a root of 2^64", low(1 << 63), api.Wide{Lo: 1 << 63}, 1, 1, 1, api.OK},
		{"by 0", low(1), low(0), 1, 1, 0, api.ErrZero},
		{"0 by 0", low(0), low(0), mostReach, 255, 0, api.ErrZero},
		{"by 2^64, whose lowest bits are 0", low(1), api.Wide{Hi: 1}, 1, 1, 0, api.OK},
		{"by 0, a reach of 0", low(1), low(0), 0, 1, 0, api.ErrArg},
		{"by 0, no steps", low(1), low(0), 1, 0, 0, api.ErrArg},
		{"by 0, too many steps", low(1), low(0), 1, 256, 0, api.ErrArg},
		{"by 0, too great a reach", low(1), low(0), mostReach + 1, 1, 0, api.ErrArg},
	} {
		if got, e := line.Of(c.square, c.by, c.r, c.n); got != c.want || e != c.e {
			t.Errorf("%s: %d, %d; want %d, %d", c.name, got, e, c.want, c.e)
		}
		checkOf(t, c.square, c.by, c.r, c.n)
	}
}

// Numbers whose root holds exactly k steps, and those hardly less and hardly greater, up to where 128 bits end.
func TestSteps(t *testing.T) {
	rng := rand.New(rand.NewSource(19))
	one := big.NewInt(1)
	exact, wider := 0, 0
	for range 100000 {
		n := 1 + rng.Intn(mostSteps)
		r := 1 + rng.Intn(1<<(1+rng.Intn(20)))
		k := rng.Intn(n + 1)
		m := new(big.Int).Rand(rng, new(big.Int).Lsh(one, uint(1+rng.Intn(120))))
		m.Add(m, one)
		square := new(big.Int).Mul(m, num(k*k))
		square.Mul(square, new(big.Int).Mul(num(r), num(r)))
		by := new(big.Int).Mul(m, num(n*n))
		s, ok := wideOf(square)
		d, fits := wideOf(by)
		if !ok || !fits {
			continue
		}
		exact++
		if new(big.Int).Mul(square, num(n*n)).BitLen() > 128 {
			wider++
		}
		if got, e := line.Of(s, d, r, n); got != k || e != api.OK {
			t.Fatalf("Of(%v, %v, %d, %d) = %d, %d; want %d", s, d, r, n, got, e, k)
		}
		if less, ok := wideOf(square.Sub(square, one)); ok && k > 0 {
			if got, e := line.Of(less, d, r, n); got != k-1 || e != api.OK {
				t.Fatalf("Of(%v, %v, %d, %d) = %d, %d; want %d", less, d, r, n, got, e, k-1)
			}
			checkOf(t, less, d, r, n)
		}
		if great, ok := wideOf(by.Add(by, one)); ok && k > 0 {
			if got, e := line.Of(s, great, r, n); got != k-1 || e != api.OK {
				t.Fatalf("Of(%v, %v, %d, %d) = %d, %d; want %d", s, great, r, n, got, e, k-1)
			}
		}
	}
	if min(exact, wider) < 5000 {
		t.Errorf("%d exact ones, %d of them with products above 128 bits", exact, wider)
	}
}

// All levels of all distances along a line, of some reaches, in all numbers of steps.
func TestAllLevels(t *testing.T) {
	for _, r := range []int{1, 2, 3, 7, 16, 254, 255, 256} {
		for n := 1; n <= mostSteps; n++ {
			for d := 0; d <= r+1; d++ {
				want := min(n, d*n/r)
				if got, e := line.Point(pt(5, 5), pt(5, 5-d), r, n); got != want || e != api.OK {
					t.Fatalf("%d away, reach %d, %d steps: %d, %d; want %d", d, r, n, got, e, want)
				}
			}
		}
	}
}

// r and n at their bounds and beyond them: ErrArg of each call.
func TestReachAndSteps(t *testing.T) {
	reaches := append([]int{-mostReach, -1, 0, 1, 2, mostReach - 1, mostReach, mostReach + 1, 2 * mostReach}, far...)
	steps := append([]int{-255, -1, 0, 1, 2, 254, 255, 256, 257, 65536 + 1}, far...)
	for _, r := range reaches {
		for _, n := range steps {
			want := api.OK
			if r < 1 || r > mostReach || n < 1 || n > mostSteps {
				want = api.ErrArg
			}
			a, b := pt(-5, 0), pt(5, 0)
			for _, p := range []api.Pt{pt(0, 3), pt(-9, 3), pt(9, 3), a, b, pt(mostFine, -mostFine), pt(mostFine+1, 0)} {
				check(t, p, a, b, r, n)
				check(t, p, a, a, r, n)
			}
			if got, e := line.Point(a, b, r, n); e != want || e != api.OK && got != 0 {
				t.Errorf("Point: reach %d, %d steps: %d, %d", r, n, got, e)
			}
			if got, e := line.Segment(pt(0, 3), a, b, r, n); e != want || e != api.OK && got != 0 {
				t.Errorf("Segment: reach %d, %d steps: %d, %d", r, n, got, e)
			}
			if got, e := line.Ray(pt(0, 3), a, b, r, n); e != want || e != api.OK && got != 0 {
				t.Errorf("Ray: reach %d, %d steps: %d, %d", r, n, got, e)
			}
			for _, by := range []api.Wide{low(0), low(1), {Hi: 1}, {Hi: word, Lo: word}} {
				for _, square := range []api.Wide{low(0), low(1), {Hi: 1}, {Hi: word, Lo: word}} {
					checkOf(t, square, by, r, n)
				}
			}
		}
	}
}

// Each number of each point by itself at its bounds and beyond them, the others at theirs, or anywhere.
func TestPointsThatMayNotBe(t *testing.T) {
	for _, base := range []api.Pt{pt(0, 0), pt(1, -2), pt(mostFine, mostFine), pt(-mostFine, mostFine)} {
		for i := range 6 {
			for _, n := range append([]int{mostFine, -mostFine, mostFine + 1, -mostFine - 1, mostFine - 1, 2 * mostFine}, far...) {
				l := [3]api.Pt{base, base, base}
				if i%2 == 0 {
					l[i/2].X = n
				} else {
					l[i/2].Y = n
				}
				check(t, l[0], l[1], l[2], 1, 1)
				check(t, l[0], l[1], l[2], mostReach, mostSteps)
				check(t, l[0], l[1], l[2], 0, 1)
				check(t, l[0], l[1], l[2], 1, 0)
				want := api.OK
				if n < -mostFine || n > mostFine {
					want = api.ErrArg
				}
				if got, e := line.Segment(l[0], l[1], l[2], 5, 5); e != want || e != api.OK && got != 0 {
					t.Errorf("Segment of %v: %d, %d", l, got, e)
				}
				if got, e := line.Ray(l[0], l[1], l[2], 5, 5); e != want || e != api.OK && got != 0 {
					t.Errorf("Ray of %v: %d, %d", l, got, e)
				}
				if i >= 4 {
					continue
				}
				if got, e := line.Point(l[0], l[1], 5, 5); e != want || e != api.OK && got != 0 {
					t.Errorf("Point of %v: %d, %d", l, got, e)
				}
			}
		}
	}
}

// grid is all points whose x and y are of these numbers.
func grid(l ...int) []api.Pt {
	var out []api.Pt
	for _, y := range l {
		for _, x := range l {
			out = append(out, pt(x, y))
		}
	}
	return out
}

// All lines of small grids, seen from all points of them, near 0 and at the bounds.
func TestGrids(t *testing.T) {
	const m = mostFine
	for _, c := range []struct {
		l    []int
		r, n int
	}{
		{[]int{-2, -1, 0, 1, 2}, 4, 255},
		{[]int{0, 1, 2, 3}, 5, 5},
		{[]int{-m, 1 - m, 0, m - 1, m}, mostReach, 255},
		{[]int{-m, 1 - m, 2 - m}, 2, 200},
		{[]int{-m - 1, -m, 0, m, m + 1}, 1, 1},
	} {
		points := grid(c.l...)
		for _, p := range points {
			for _, a := range points {
				for _, b := range points {
					check(t, p, a, b, c.r, c.n)
				}
			}
		}
	}
}

// anyPt is a point that may be, up to so far off.
func anyPt(rng *rand.Rand, wide int) api.Pt {
	return pt(rng.Intn(2*wide+1)-wide, rng.Intn(2*wide+1)-wide)
}

// near is a point that may be, hardly off another one.
func near(rng *rand.Rand, p api.Pt, wide int) api.Pt {
	x, y := p.X+rng.Intn(2*wide+1)-wide, p.Y+rng.Intn(2*wide+1)-wide
	return pt(max(-mostFine, min(mostFine, x)), max(-mostFine, min(mostFine, y)))
}

// about is a point near the line from a to b, or near where it goes on.
func about(rng *rand.Rand, a, b api.Pt, wide int) api.Pt {
	k := rng.Intn(400) - 100
	return near(rng, pt(a.X+(b.X-a.X)*k/200, a.Y+(b.Y-a.Y)*k/200), wide)
}

func TestRandom(t *testing.T) {
	rng := rand.New(rand.NewSource(190))
	between, apart := 0, 0
	for range 50000 {
		wide := []int{3, 10, 1000, mostFine}[rng.Intn(4)]
		p, a, b := anyPt(rng, wide), anyPt(rng, wide), anyPt(rng, wide)
		r, n := 1+rng.Intn(min(3*wide, mostReach)), 1+rng.Intn(mostSteps)
		switch rng.Intn(4) {
		case 0:
			p = about(rng, a, b, min(r, 2*wide))
		case 1:
			b = near(rng, a, 2)
		case 2:
			p = near(rng, a, r)
		}
		check(t, p, a, b, r, n)
		if got, _ := segment(p, a, b, r, n); got > 0 && got < n {
			between++
		}
		s, _ := segment(p, a, b, r, n)
		if y, _ := ray(p, a, b, r, n); y < s {
			apart++
		}
	}
	if min(between, apart) < 5000 {
		t.Errorf("%d within the reach, %d nearer to the ray", between, apart)
	}
}

// Numbers of all lengths, with all lengths of what they are divided by.
func TestRandomOf(t *testing.T) {
	rng := rand.New(rand.NewSource(191))
	between := 0
	for range 100000 {
		bits := uint(1 + rng.Intn(128))
		square := new(big.Int).Rand(rng, new(big.Int).Lsh(num(1), bits))
		by := new(big.Int).Rand(rng, new(big.Int).Lsh(num(1), uint(max(1, int(bits)-rng.Intn(45)))))
		s, _ := wideOf(square)
		d, _ := wideOf(by)
		r, n := 1+rng.Intn(1<<(1+rng.Intn(20))), 1+rng.Intn(mostSteps)
		checkOf(t, s, d, r, n)
		if got, _ := of(s, d, r, n); got > 0 && got < n {
			between++
		}
	}
	if between < 5000 {
		t.Errorf("%d within the reach", between)
	}
}
