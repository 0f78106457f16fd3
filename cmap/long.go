package cmap

import (
	"strings"

	"pochoir/api"
	"pochoir/octet"
)

const (
	// longForm is what a part of 12 begins with: the numbers 12 and 0, of two bytes each.
	longForm = 12 << 16
	// longHead is how many bytes are ahead of a part's groups, groupSize how many a group has.
	longHead  = 16
	groupSize = 12
)

// readLong gathers the pairs of the part of 12 at a place of s. ErrEnd: it isn't all there; ErrForm: a number that may not be; ErrLong: there are too many pairs.
func readLong(s string, at int, g *gathered) api.Errno {
	r, n, e := openLong(s, at)
	if e != api.OK {
		return e
	}
	ahead := -1
	for range n {
		u := readRun(r)
		if u.from <= ahead || u.to < u.from || u.to > api.MaxCode {
			return api.ErrForm
		}
		for code := u.from; code <= u.to; code++ {
			if e := g.add(code, u.glyph+code-u.from); e != api.OK {
				return e
			}
		}
		ahead = u.to
	}
	return api.OK
}

// openLong is a reader at the first group of the part of 12 at a place of s, and how many groups there are, all of whose bytes are there.
func openLong(s string, at int) (*octet.Reader, int, api.Errno) {
	r := octet.New(s)
	r.Skip(at)
	form := r.U32()
	size := int(r.U32())
	r.Skip(4)
	n := int(r.U32())
	if r.Err() != api.OK {
		return nil, 0, api.ErrEnd
	}
	if form != longForm || size != longHead+groupSize*n {
		return nil, 0, api.ErrForm
	}
	if r.Left() < groupSize*n {
		return nil, 0, api.ErrEnd
	}
	return r, n, api.OK
}

// readRun is the next group.
func readRun(r *octet.Reader) run {
	var u run
	u.from = int(r.U32())
	u.to = int(r.U32())
	u.glyph = int(r.U32())
	return u
}

// makeLong is a part of 12 of these groups.
func makeLong(l []run) string {
	var b strings.Builder
	b.WriteString(octet.P32(longForm) + octet.P32(uint32(longHead+groupSize*len(l))) + octet.P32(0) + octet.P32(uint32(len(l))))
	for _, u := range l {
		b.WriteString(octet.P32(uint32(u.from)) + octet.P32(uint32(u.to)) + octet.P32(uint32(u.glyph)))
	}
	return b.String()
}
