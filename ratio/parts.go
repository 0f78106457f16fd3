package ratio

import (
	"math"

	"pochoir/api"
	"pochoir/wide"
)

// parts is a fraction in lowest terms with its sign beside it: so what is negated, or turned upside down, fits, which it need not as a Ratio. A 0 may be neg.
type parts struct {
	neg  bool
	n, d uint64
}

// open asks that a may be.
func open(a api.Ratio) parts {
	return parts{a.N < 0, absolute(a.N), uint64(a.D)}
}

func negated(x parts) parts {
	return parts{!x.neg, x.n, x.d}
}

// upended is 1 by x; it asks that x isn't 0.
func upended(x parts) parts {
	return parts{x.neg, x.d, x.n}
}

// absolute is right of the least int64 too: its conversion goes round to 2^63, and so does what that is negated to.
func absolute(n int64) uint64 {
	if n < 0 {
		return -uint64(n)
	}
	return uint64(n)
}

// common is the greatest common divisor of n and d; of 0 and d it is d.
func common(n, d uint64) uint64 {
	for n != 0 {
		n, d = d%n, n
	}
	return d
}

// fit is the ratio of a sign and of n and d, which have no common divisor above 1. ErrOver: N or D doesn't fit.
func fit(neg bool, n, d api.Wide) (api.Ratio, api.Errno) {
	most := uint64(math.MaxInt64)
	if neg {
		most++
	}
	if wide.Cmp(n, wide.Of(most)) > 0 || wide.Cmp(d, wide.Of(math.MaxInt64)) > 0 {
		return api.Ratio{}, api.ErrOver
	}
	if neg {
		// Negated as a number without a sign, for 2^63 doesn't fit with one.
		return api.Ratio{N: int64(-n.Lo), D: int64(d.Lo)}, api.OK
	}
	return api.Ratio{N: int64(n.Lo), D: int64(d.Lo)}, api.OK
}

// sum is in lowest terms without a divisor of 128 bits: what the sum's two parts still share divides what x.d and y.d share.
func sum(x, y parts) (api.Ratio, api.Errno) {
	g := common(x.d, y.d)
	neg, n := signed(x.neg, wide.Mul(x.n, y.d/g), y.neg, wide.Mul(y.n, x.d/g))
	_, left, _ := wide.Div(n, g)
	h := common(left, g)
	n, _, _ = wide.Div(n, h)
	return fit(neg, n, wide.Mul(x.d/g, y.d/h))
}

// signed is the sum of two numbers with their signs. It fits: each of a and b is below 2^126, as the products in sum are.
func signed(aNeg bool, a api.Wide, bNeg bool, b api.Wide) (bool, api.Wide) {
	switch {
	case aNeg == bNeg:
		n, _ := wide.Add(a, b)
		return aNeg, n
	case wide.Cmp(a, b) < 0:
		n, _ := wide.Sub(b, a)
		return bNeg, n
	}
	n, _ := wide.Sub(a, b)
	return aNeg, n
}

// product is in lowest terms, as x and y are: all that its two parts could share is taken out ahead.
func product(x, y parts) (api.Ratio, api.Errno) {
	g, h := common(x.n, y.d), common(y.n, x.d)
	return fit(x.neg != y.neg, wide.Mul(x.n/g, y.n/h), wide.Mul(x.d/h, y.d/g))
}

// order is -1, 0, 1: x is less, the same, greater. It asks that neither is a 0 that is neg.
func order(x, y parts) int {
	left, right := wide.Mul(x.n, y.d), wide.Mul(y.n, x.d)
	switch {
	case x.neg && y.neg:
		return wide.Cmp(right, left)
	case x.neg:
		return -1
	case y.neg:
		return 1
	}
	return wide.Cmp(left, right)
}

// down is a rounded down, and how many D-ths are left over, from 0 on; it asks that a may be.
func down(a api.Ratio) (whole, left int64) {
	whole, left = a.N/a.D, a.N%a.D
	if left < 0 {
		return whole - 1, left + a.D
	}
	return whole, left
}
