// Package wide reckons with numbers of 128 bits, from 0 on, that don't go round: what would is refused.
package wide

import (
	"math/bits"
	"strconv"
	"strings"

	"pochoir/api"
)

// A text is made in chunks, since this is the greatest power of ten that fits into 64 bits.
const (
	chunk       = 10_000_000_000_000_000_000
	chunkDigits = 19
)

// Of is n as a Wide.
func Of(n uint64) api.Wide {
	return api.Wide{Lo: n}
}

// Add is the sum; ErrOver: it doesn't fit.
func Add(a, b api.Wide) (api.Wide, api.Errno) {
	lo, carry := bits.Add64(a.Lo, b.Lo, 0)
	hi, carry := bits.Add64(a.Hi, b.Hi, carry)
	if carry != 0 {
		return api.Wide{}, api.ErrOver
	}
	return api.Wide{Hi: hi, Lo: lo}, api.OK
}

// Sub is the difference; ErrOver: it is below 0.
func Sub(a, b api.Wide) (api.Wide, api.Errno) {
	lo, borrow := bits.Sub64(a.Lo, b.Lo, 0)
	hi, borrow := bits.Sub64(a.Hi, b.Hi, borrow)
	if borrow != 0 {
		return api.Wide{}, api.ErrOver
	}
	return api.Wide{Hi: hi, Lo: lo}, api.OK
}

// Mul is the product, which always fits.
func Mul(a, b uint64) api.Wide {
	hi, lo := bits.Mul64(a, b)
	return api.Wide{Hi: hi, Lo: lo}
}

// Scale is a times n; ErrOver: it doesn't fit.
func Scale(a api.Wide, n uint64) (api.Wide, api.Errno) {
	high := Mul(a.Hi, n)
	if high.Hi != 0 {
		return api.Wide{}, api.ErrOver
	}
	return Add(api.Wide{Hi: high.Lo}, Mul(a.Lo, n))
}

// Div is how often n goes into a, and what is left over; ErrZero: n is 0.
func Div(a api.Wide, n uint64) (api.Wide, uint64, api.Errno) {
	if n == 0 {
		return api.Wide{}, 0, api.ErrZero
	}
	hi, left := a.Hi/n, a.Hi%n
	// left is below n, so bits.Div64 doesn't panic.
	lo, left := bits.Div64(left, a.Lo, n)
	return api.Wide{Hi: hi, Lo: lo}, left, api.OK
}

// Cmp is -1, 0, 1: a is less, the same, greater.
func Cmp(a, b api.Wide) int {
	switch {
	case a == b:
		return 0
	case a.Hi < b.Hi || a.Hi == b.Hi && a.Lo < b.Lo:
		return -1
	}
	return 1
}

// Shift is a times 2 to the power n, rounded down; ErrOver: it doesn't fit.
func Shift(a api.Wide, n int) (api.Wide, api.Errno) {
	if n < 0 {
		// Negated as a number without a sign, for the least int has no counterpart above 0.
		return down(a, -uint(n)), api.OK
	}
	out := up(a, uint(n))
	// What was pushed out at the top doesn't come back.
	if down(out, uint(n)) != a {
		return api.Wide{}, api.ErrOver
	}
	return out, api.OK
}

// up relies, as down does, on how Go shifts: by 64 or more gives 0, and of n-64 and 64-n the one that would be below 0 goes round to a number far above 64. So no case of n needs a branch; at 64 both terms are the same.
func up(a api.Wide, n uint) api.Wide {
	return api.Wide{Hi: a.Hi<<n | a.Lo<<(n-64) | a.Lo>>(64-n), Lo: a.Lo << n}
}

// down doesn't refuse: what is pushed out at the bottom is left out.
func down(a api.Wide, n uint) api.Wide {
	return api.Wide{Hi: a.Hi >> n, Lo: a.Lo>>n | a.Hi>>(n-64) | a.Hi<<(64-n)}
}

// Bits is how many digits a has in base 2; 0 of 0.
func Bits(a api.Wide) int {
	if a.Hi != 0 {
		return 64 + bits.Len64(a.Hi)
	}
	return bits.Len64(a.Lo)
}

// Text is a in decimal digits, as few as may be.
func Text(a api.Wide) string {
	if a.Hi == 0 {
		return strconv.FormatUint(a.Lo, 10)
	}
	high, low, _ := Div(a, chunk)
	tail := strconv.FormatUint(low, 10)
	return Text(high) + strings.Repeat("0", chunkDigits-len(tail)) + tail
}
