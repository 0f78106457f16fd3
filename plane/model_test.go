package plane_test

import (
	"math/big"

	"pochoir/api"
)

// What the tests hold the package against: the chapter's words, in numbers of any size.

// most is how far off a point may be.
const most = 33554432

// num is a number of any size.
func num(n int) *big.Int {
	return big.NewInt(int64(n))
}

// less is m less n.
func less(m, n int) *big.Int {
	return new(big.Int).Sub(num(m), num(n))
}

// times is m times n.
func times(m, n *big.Int) *big.Int {
	return new(big.Int).Mul(m, n)
}

// may is what May must answer.
func may(p api.Pt) bool {
	for _, n := range []int{p.X, p.Y} {
		if num(n).CmpAbs(num(most)) > 0 {
			return false
		}
	}
	return true
}

// allMay tells whether all of these points may be.
func allMay(l []api.Pt) bool {
	for _, p := range l {
		if !may(p) {
			return false
		}
	}
	return true
}

// cross is what Cross must answer.
func cross(a, b, c api.Pt) *big.Int {
	return new(big.Int).Sub(times(less(b.X, a.X), less(c.Y, a.Y)), times(less(b.Y, a.Y), less(c.X, a.X)))
}

// dot is what Dot must answer.
func dot(a, b, c api.Pt) *big.Int {
	return new(big.Int).Add(times(less(b.X, a.X), less(c.X, a.X)), times(less(b.Y, a.Y), less(c.Y, a.Y)))
}

// between is what Between must answer: the points in whole numbers on a line are the places of as many equal steps as there can be from one end to the other.
func between(a, b, p api.Pt) bool {
	x, y := less(b.X, a.X), less(b.Y, a.Y)
	steps := new(big.Int).GCD(nil, nil, new(big.Int).Abs(x), new(big.Int).Abs(y))
	if steps.Sign() == 0 {
		return p.X == a.X && p.Y == a.Y
	}
	x.Quo(x, steps)
	y.Quo(y, steps)
	k := new(big.Int)
	if x.Sign() != 0 {
		k.Quo(less(p.X, a.X), x)
	} else {
		k.Quo(less(p.Y, a.Y), y)
	}
	return k.Sign() >= 0 && k.Cmp(steps) <= 0 && times(k, x).Cmp(less(p.X, a.X)) == 0 && times(k, y).Cmp(less(p.Y, a.Y)) == 0
}

// meet is what Meet must answer: it seeks the s and t from 0 to 1 at which the first line, and the second one, is at the same point.
func meet(a, b, c, d api.Pt) bool {
	if a == b {
		return between(c, d, a)
	}
	if c == d {
		return between(a, b, c)
	}
	ux, uy, vx, vy := less(b.X, a.X), less(b.Y, a.Y), less(d.X, c.X), less(d.Y, c.Y)
	x, y := less(c.X, a.X), less(c.Y, a.Y)
	by := new(big.Int).Sub(times(ux, vy), times(uy, vx))
	if by.Sign() == 0 {
		return cross(a, b, c).Sign() == 0 && overlap(a.X, b.X, c.X, d.X) && overlap(a.Y, b.Y, c.Y, d.Y)
	}
	s := new(big.Rat).SetFrac(new(big.Int).Sub(times(x, vy), times(y, vx)), by)
	t := new(big.Rat).SetFrac(new(big.Int).Sub(times(x, uy), times(y, ux)), by)
	return unit(s) && unit(t)
}

// unit tells whether a number is from 0 to 1.
func unit(s *big.Rat) bool {
	return s.Sign() >= 0 && s.Cmp(big.NewRat(1, 1)) <= 0
}

// overlap tells whether the numbers from m to n and from o to p, up or down, have one in common.
func overlap(m, n, o, p int) bool {
	return max(min(m, n), min(o, p)) <= min(max(m, n), max(o, p))
}
