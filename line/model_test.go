package line_test

import (
	"math/big"

	"pochoir/api"
)

// What the tests hold the package against: the chapter's words, in numbers of any size and fractions.

// The bounds, written out.
const (
	mostFine  = 33554432
	mostReach = 1048576
	mostSteps = 255
)

// num is a number of any size.
func num(n int) *big.Int {
	return big.NewInt(int64(n))
}

// frac is a whole number as a fraction.
func frac(n int) *big.Rat {
	return new(big.Rat).SetInt(num(n))
}

// value is a Wide as a number of any size.
func value(a api.Wide) *big.Int {
	v := new(big.Int).SetUint64(a.Hi)
	v.Lsh(v, 64)
	return v.Add(v, new(big.Int).SetUint64(a.Lo))
}

// wideOf is a number of any size as a Wide; false, if it doesn't fit.
func wideOf(v *big.Int) (api.Wide, bool) {
	if v.Sign() < 0 || v.BitLen() > 128 {
		return api.Wide{}, false
	}
	hi := new(big.Int).Rsh(v, 64)
	lo := new(big.Int).Sub(v, new(big.Int).Lsh(hi, 64))
	return api.Wide{Hi: hi.Uint64(), Lo: lo.Uint64()}, true
}

// mayPt tells whether a point may be.
func mayPt(p api.Pt) bool {
	return num(p.X).CmpAbs(num(mostFine)) <= 0 && num(p.Y).CmpAbs(num(mostFine)) <= 0
}

// mayBe tells whether all of these points, r and n may be.
func mayBe(r, n int, l ...api.Pt) bool {
	for _, p := range l {
		if !mayPt(p) {
			return false
		}
	}
	return 1 <= r && r <= mostReach && 1 <= n && n <= mostSteps
}

// level is how often the root of a fraction holds r by n: of what is rounded down ahead of the root, and behind it, nothing is lost.
func level(square *big.Rat, r, n int) int {
	times := new(big.Rat).Mul(square, new(big.Rat).SetFrac(num(n*n), new(big.Int).Mul(num(r), num(r))))
	whole := new(big.Int).Quo(times.Num(), times.Denom())
	whole.Sqrt(whole)
	if whole.Cmp(num(n)) > 0 {
		return n
	}
	return int(whole.Int64())
}

// spot is a point whose numbers may be fractions.
type spot struct {
	x, y *big.Rat
}

// square is the square of how far a point is from a spot.
func square(p api.Pt, s spot) *big.Rat {
	x, y := new(big.Rat).Sub(frac(p.X), s.x), new(big.Rat).Sub(frac(p.Y), s.y)
	return x.Add(x.Mul(x, x), y.Mul(y, y))
}

// nearest is the spot nearest to p of those that are t times the way from a to d away from a, t 0 or more, and at most 1 if that bounds it.
func nearest(p, a, d api.Pt, bounded bool) spot {
	x, y := new(big.Rat).Sub(frac(d.X), frac(a.X)), new(big.Rat).Sub(frac(d.Y), frac(a.Y))
	t := new(big.Rat)
	if x.Sign() != 0 || y.Sign() != 0 {
		px, py := new(big.Rat).Sub(frac(p.X), frac(a.X)), new(big.Rat).Sub(frac(p.Y), frac(a.Y))
		t.Add(px.Mul(px, x), py.Mul(py, y))
		far := new(big.Rat).Add(new(big.Rat).Mul(x, x), new(big.Rat).Mul(y, y))
		t.Quo(t, far)
	}
	if t.Sign() < 0 {
		t.SetInt64(0)
	}
	if one := big.NewRat(1, 1); bounded && t.Cmp(one) > 0 {
		t.Set(one)
	}
	return spot{x.Add(x.Mul(x, t), frac(a.X)), y.Add(y.Mul(y, t), frac(a.Y))}
}

// point is what Point must answer.
func point(p, a api.Pt, r, n int) (int, api.Errno) {
	if !mayBe(r, n, p, a) {
		return 0, api.ErrArg
	}
	return level(square(p, spot{frac(a.X), frac(a.Y)}), r, n), api.OK
}

// segment is what Segment must answer.
func segment(p, a, b api.Pt, r, n int) (int, api.Errno) {
	if !mayBe(r, n, p, a, b) {
		return 0, api.ErrArg
	}
	return level(square(p, nearest(p, a, b, true)), r, n), api.OK
}

// ray is what Ray must answer.
func ray(p, a, d api.Pt, r, n int) (int, api.Errno) {
	if !mayBe(r, n, p, a, d) {
		return 0, api.ErrArg
	}
	return level(square(p, nearest(p, a, d, false)), r, n), api.OK
}

// of is what Of must answer.
func of(square, by api.Wide, r, n int) (int, api.Errno) {
	if !mayBe(r, n) {
		return 0, api.ErrArg
	}
	if value(by).Sign() == 0 {
		return 0, api.ErrZero
	}
	return level(new(big.Rat).SetFrac(value(square), value(by)), r, n), api.OK
}
