package big

import (
	"cmp"
	"math/bits"

	"pochoir/api"
)

// trim is x without the zeros at its top, in x's memory.
func trim(x []uint32) []uint32 {
	n := len(x)
	for n > 0 && x[n-1] == 0 {
		n--
	}
	return x[:n]
}

// form is the number of a sign and of digits, in its one form. It keeps x, so x is memory that no caller of the package has.
func form(neg bool, x []uint32) api.Big {
	x = trim(x)
	if len(x) == 0 {
		return api.Big{}
	}
	return api.Big{Neg: neg, Digits: x}
}

// absolute is right of the least int64 too: its conversion goes round to 2^63, and so does what that is negated to.
func absolute(n int64) uint64 {
	if n < 0 {
		return -uint64(n)
	}
	return uint64(n)
}

// at is the digit of x at place i; above its highest one they are all 0.
func at(x []uint32, i int) uint32 {
	if i < len(x) {
		return x[i]
	}
	return 0
}

// compare asks that neither x nor y has a zero at its top: the longer one is the greater one.
func compare(x, y []uint32) int {
	if len(x) != len(y) {
		return cmp.Compare(len(x), len(y))
	}
	for i := len(x) - 1; i >= 0; i-- {
		if x[i] != y[i] {
			return cmp.Compare(x[i], y[i])
		}
	}
	return 0
}

// plus is the sum of x and y; it has one digit more than the longer of them, for the last carry.
func plus(x, y []uint32) []uint32 {
	out := make([]uint32, max(len(x), len(y))+1)
	var carry uint32
	for i := range out {
		out[i], carry = bits.Add32(at(x, i), at(y, i), carry)
	}
	return out
}

// minus asks that x isn't less than y, so that no borrow is left over.
func minus(x, y []uint32) []uint32 {
	out := make([]uint32, len(x))
	var borrow uint32
	for i := range out {
		out[i], borrow = bits.Sub32(x[i], at(y, i), borrow)
	}
	return out
}

// times is the product of x and y, with as many digits as they have together.
func times(x, y []uint32) []uint32 {
	out := make([]uint32, len(x)+len(y))
	for i, d := range x {
		var carry uint64
		for j, f := range y {
			// This is at most 2^64 - 1: the square of 2^32 - 1, and twice 2^32 - 1.
			sum := uint64(d)*uint64(f) + uint64(out[i+j]) + carry
			out[i+j] = uint32(sum)
			carry = sum >> digitBits
		}
		out[i+len(y)] = uint32(carry)
	}
	return out
}

// divide is how often n, which isn't 0, goes into x, and what is left over.
func divide(x []uint32, n uint64) ([]uint32, uint64) {
	out := make([]uint32, len(x))
	var left uint64
	for i := len(x) - 1; i >= 0; i-- {
		// left is below n: so bits.Div64 doesn't panic, and how often n goes in is a single digit.
		often, rest := bits.Div64(left>>digitBits, left<<digitBits|uint64(x[i]), n)
		out[i], left = uint32(often), rest
	}
	return out, left
}

// proper asks for at least one decimal digit, and none but them; a 0 leads only where it stands alone.
func proper(decimals string) bool {
	if decimals == "" || decimals[0] == '0' && len(decimals) > 1 {
		return false
	}
	for i := range len(decimals) {
		if decimals[i] < '0' || decimals[i] > '9' {
			return false
		}
	}
	return true
}
