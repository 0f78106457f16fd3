package cmap

import (
	"math/bits"
	"strings"

	"pochoir/api"
	"pochoir/octet"
)

const (
	// shortForm is what a part of 4 begins with.
	shortForm = 4
	// shortHead is how many bytes are ahead of all To; with the 0 behind them, and four numbers a segment, a part has shortLeast and segmentSize times the segments, at least.
	shortHead   = 14
	shortLeast  = shortHead + 2
	segmentSize = 8
	// most is how many segments there may be.
	most = 8192
	// lastCode is the To of the last segment.
	lastCode = 0xffff
)

// segment is code points one behind the other, and how their glyphs are told: by delta, or by numbers, whose places are counted from that of jump itself, at.
type segment struct {
	from, to, delta, jump, at int
}

// readShort gathers the pairs of the part of 4 at a place of s. ErrEnd: it isn't all there, or a glyph's place is beyond it; ErrForm: a number that may not be; ErrLong: there are too many pairs.
func readShort(s string, at int, g *gathered) api.Errno {
	part, n, e := openShort(s, at)
	if e != api.OK {
		return e
	}
	if number(part, shortHead+2*n) != 0 {
		return api.ErrForm
	}
	ahead := -1
	for i := range n {
		u := readSegment(part, n, i)
		if u.from <= ahead || u.to < u.from || i == n-1 && u.to != lastCode || u.jump%2 != 0 {
			return api.ErrForm
		}
		if e := u.gather(part, g); e != api.OK {
			return e
		}
		ahead = u.to
	}
	return api.OK
}

// openShort is the bytes of the part of 4 at a place of s, and how many segments it has.
func openShort(s string, at int) (string, int, api.Errno) {
	r := octet.New(s)
	r.Skip(at)
	form := r.U16()
	size := int(r.U16())
	r.Skip(2)
	double := int(r.U16())
	r.Skip(6)
	if r.Err() != api.OK {
		return "", 0, api.ErrEnd
	}
	// All of the head is there.
	told, _ := octet.Cut(s, at+6, 8)
	n := double / 2
	if form != shortForm || size%2 != 0 || !mayDouble(double) || told != counts(n) || size < shortLeast+segmentSize*n {
		return "", 0, api.ErrForm
	}
	part, e := octet.Cut(s, at, size)
	if e != api.OK {
		return "", 0, e
	}
	return part, n, api.OK
}

// mayDouble tells whether a number may be twice that of the segments.
func mayDouble(n int) bool {
	return n > 0 && n <= 2*most && n%2 == 0
}

// counts is the bytes of the four numbers that tell of n segments, at least one.
func counts(n int) string {
	power := bits.Len(uint(n)) - 1
	reach := 2 << power
	return octet.P16(uint16(2*n)) + octet.P16(uint16(reach)) + octet.P16(uint16(power)) + octet.P16(uint16(2*n-reach))
}

// readSegment is the segment of number i of a part that has n of them.
func readSegment(part string, n, i int) segment {
	to, step := shortHead+2*i, 2*n
	// The 0 stands between all To and all From.
	from := to + step + 2
	delta := from + step
	jump := delta + step
	return segment{from: number(part, from), to: number(part, to), delta: number(part, delta), jump: number(part, jump), at: jump}
}

// gather takes in the segment's code points. ErrEnd: a glyph's place is beyond the part.
func (u segment) gather(part string, g *gathered) api.Errno {
	for code := u.from; code <= u.to; code++ {
		glyph, e := u.glyph(part, code)
		if e != api.OK {
			return e
		}
		if e := g.add(code, glyph); e != api.OK {
			return e
		}
	}
	return api.OK
}

// glyph is that of a code point of the segment. ErrEnd: its place is beyond the part.
func (u segment) glyph(part string, code int) (int, api.Errno) {
	if u.jump == 0 {
		return (code + u.delta) % (lastCode + 1), api.OK
	}
	n, e := octet.U16(part, u.at+u.jump+2*(code-u.from))
	if e != api.OK || n == 0 {
		return 0, e
	}
	return (int(n) + u.delta) % (lastCode + 1), api.OK
}

// number is that of the two bytes at a place of a part, which has them.
func number(part string, at int) int {
	n, _ := octet.U16(part, at)
	return int(n)
}

// makeShort is a part of 4 of these segments, and one more.
func makeShort(l []run) string {
	// Delta 1 of FFFF alone says, modulo 65536, that it stands for glyph 0.
	l = append(l, run{from: lastCode, to: lastCode})
	var tos, froms, deltas strings.Builder
	for _, u := range l {
		tos.WriteString(octet.P16(uint16(u.to)))
		froms.WriteString(octet.P16(uint16(u.from)))
		deltas.WriteString(octet.P16(uint16(u.glyph - u.from)))
	}
	jumps := strings.Repeat(octet.P16(0), len(l))
	size := shortLeast + segmentSize*len(l)
	return octet.P16(shortForm) + octet.P16(uint16(size)) + octet.P16(0) + counts(len(l)) +
		tos.String() + octet.P16(0) + froms.String() + deltas.String() + jumps
}
