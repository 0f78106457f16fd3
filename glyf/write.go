package glyf

import (
	"math"
	"strings"

	"pochoir/api"
	"pochoir/octet"
)

// tellBox is the least x and y of contours, and the greatest; there is a point at least.
func tellBox(l [][]api.Point) string {
	least, most := l[0][0], l[0][0]
	for _, c := range l {
		for _, p := range c {
			least.X, least.Y = min(least.X, p.X), min(least.Y, p.Y)
			most.X, most.Y = max(most.X, p.X), max(most.Y, p.Y)
		}
	}
	return tellUnit(least.X) + tellUnit(least.Y) + tellUnit(most.X) + tellUnit(most.Y)
}

// tellPlaces is where each contour's last point is.
func tellPlaces(l [][]api.Point) string {
	var b strings.Builder
	last := -1
	for _, c := range l {
		last += len(c)
		b.WriteString(octet.P16(uint16(last)))
	}
	return b.String()
}

// tellPoints is the flags of all points, their x and their y. ErrOver: one is too far from the one ahead.
func tellPoints(l [][]api.Point) (string, api.Errno) {
	var flags []byte
	var xs, ys strings.Builder
	var ahead api.Point
	for _, c := range l {
		for _, p := range c {
			dx, dy := p.X-ahead.X, p.Y-ahead.Y
			if !mayStep(dx) || !mayStep(dy) {
				return "", api.ErrOver
			}
			f := stepBits(dx, xByte, xSame) | stepBits(dy, yByte, ySame)
			if p.On {
				f |= onOutline
			}
			flags = append(flags, f)
			xs.WriteString(tellStep(dx))
			ys.WriteString(tellStep(dy))
			ahead = p
		}
	}
	return string(flags) + xs.String() + ys.String(), api.OK
}

// mayStep tells whether an x or y may be so far from the one ahead: two bytes tell it.
func mayStep(d int) bool {
	return d >= math.MinInt16 && d <= math.MaxInt16
}

// isShort tells whether one byte says how far an x or y is from the one ahead.
func isShort(d int) bool {
	return d != 0 && d >= -math.MaxUint8 && d <= math.MaxUint8
}

// stepBits is what a flag says of an x or y that is so far from the one ahead, by the two bits that tell how it is given.
func stepBits(d int, short, same uint8) uint8 {
	switch {
	case d == 0:
		return same
	case isShort(d) && d > 0:
		return short | same
	case isShort(d):
		return short
	}
	return 0
}

// tellStep is the bytes of an x or y that is so far from the one ahead.
func tellStep(d int) string {
	switch {
	case d == 0:
		return ""
	case isShort(d):
		return string([]byte{byte(max(d, -d))})
	}
	return tellUnit(d)
}

// tellUnit is the two bytes of a number with a sign.
func tellUnit(n int) string {
	return octet.P16(uint16(n))
}
