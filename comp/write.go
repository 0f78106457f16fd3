package comp

import (
	"math"
	"strings"

	"pochoir/api"
	"pochoir/octet"
)

// tellHead is what stands ahead of the parts.
func tellHead() string {
	const below = -1
	return tellNumber(below) + strings.Repeat("\x00", headSize-2)
}

// tellParts is the bytes of parts that may be.
func tellParts(l []api.Part) string {
	var b strings.Builder
	for i, p := range l {
		bits := must | moveBit(p) | numbersBit(p)
		if i < len(l)-1 {
			bits |= further
		}
		b.WriteString(octet.P16(bits))
		b.WriteString(tellNumber(p.Glyph))
		b.WriteString(tellMove(p))
		b.WriteString(tellNumbers(p))
	}
	return b.String()
}

// moveBit is the bit that says of how many bytes DX and DY are.
func moveBit(p api.Part) uint16 {
	if isShort(p.DX) && isShort(p.DY) {
		return 0
	}
	return longMove
}

// numbersBit is the bit that says which of a part's four numbers are told: as few as may be.
func numbersBit(p api.Part) uint16 {
	switch {
	case p.B != 0 || p.C != 0:
		return fourNumbers
	case p.A != p.D:
		return twoNumbers
	case p.A != whole:
		return oneNumber
	}
	return 0
}

// tellMove is the bytes of DX and DY.
func tellMove(p api.Part) string {
	if moveBit(p) == longMove {
		return tellNumber(p.DX) + tellNumber(p.DY)
	}
	return string([]byte{byte(p.DX), byte(p.DY)})
}

// tellNumbers is the bytes of those of a part's four numbers that are told.
func tellNumbers(p api.Part) string {
	switch numbersBit(p) {
	case oneNumber:
		return tellNumber(p.A)
	case twoNumbers:
		return tellNumber(p.A) + tellNumber(p.D)
	case fourNumbers:
		return tellNumber(p.A) + tellNumber(p.B) + tellNumber(p.C) + tellNumber(p.D)
	}
	return ""
}

// isShort tells whether a number fits into one byte with a sign.
func isShort(n int) bool {
	return n >= math.MinInt8 && n <= math.MaxInt8
}

// tellNumber is the two bytes of a number that fits into them, with a sign or without.
func tellNumber(n int) string {
	return octet.P16(uint16(n))
}
