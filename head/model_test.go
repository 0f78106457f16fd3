package head_test

import (
	"encoding/binary"

	"pochoir/api"
)

// What the tests hold the package against: the chapter's words, with encoding/binary alone.

// number is the one in so many bytes at a place, the highest byte first, without a sign.
func number(s string, at, n int) int {
	out := 0
	for _, b := range []byte(s[at : at+n]) {
		out = out*256 + int(b)
	}
	return out
}

// signed is the one in two bytes at a place, with a sign.
func signed(s string, at int) int {
	n := number(s, at, 2)
	if n >= 32768 {
		n -= 65536
	}
	return n
}

// first is the bytes of the first table of a tag; ErrNone, or ErrEnd, of one of fewer bytes than least.
func first(l []api.Table, tag string, least int) (string, api.Errno) {
	for _, t := range l {
		if t.Tag == tag && len(t.Data) < least {
			return "", api.ErrEnd
		}
		if t.Tag == tag {
			return t.Data, api.OK
		}
	}
	return "", api.ErrNone
}

// parsed is what Parse must answer.
func parsed(l []api.Table) (api.Head, api.Errno) {
	var none api.Head
	s, e := first(l, "head", 54)
	if e != api.OK {
		return none, e
	}
	em, long := number(s, 18, 2), number(s, 50, 2)
	if number(s, 0, 2) != 1 || number(s, 2, 2) != 0 || number(s, 12, 4) != 0x5f0f3cf5 || em < 16 || em > 16384 || long > 1 || number(s, 52, 2) != 0 {
		return none, api.ErrForm
	}
	s, e = first(l, "maxp", 32)
	if e != api.OK {
		return none, e
	}
	glyphs := number(s, 4, 2)
	switch {
	case number(s, 0, 4) != 65536:
		return none, api.ErrForm
	case glyphs > 1024:
		return none, api.ErrLong
	case glyphs < 1:
		return none, api.ErrForm
	}
	s, e = first(l, "hhea", 36)
	if e != api.OK {
		return none, e
	}
	metrics := number(s, 34, 2)
	if number(s, 0, 4) != 65536 || number(s, 32, 2) != 0 || metrics < 1 || metrics > glyphs {
		return none, api.ErrForm
	}
	return api.Head{Em: em, Long: long == 1, Glyphs: glyphs, Metrics: metrics, Ascent: signed(s, 4), Descent: signed(s, 6), Gap: signed(s, 8)}, api.OK
}

// may is what May must answer.
func may(h api.Head) bool {
	for _, c := range [][3]int{{16, h.Em, 16384}, {1, h.Glyphs, 1024}, {1, h.Metrics, h.Glyphs}, {-32768, h.Ascent, 32767}, {-32768, h.Descent, 32767}, {-32768, h.Gap, 32767}} {
		if c[1] < c[0] || c[1] > c[2] {
			return false
		}
	}
	return true
}

// at puts the bytes of a number of two or four bytes, by two's complement, at a place.
func at(b []byte, place int, n int, size int) {
	if size == 2 {
		binary.BigEndian.PutUint16(b[place:], uint16(n))
	} else {
		binary.BigEndian.PutUint32(b[place:], uint32(n))
	}
}

// made is what Make must answer of an h that may be.
func made(h api.Head) []api.Table {
	head, hhea, maxp := make([]byte, 54), make([]byte, 36), make([]byte, 32)
	at(head, 0, 1, 2)
	at(head, 12, 0x5f0f3cf5, 4)
	at(head, 18, h.Em, 2)
	if h.Long {
		at(head, 50, 1, 2)
	}
	at(hhea, 0, 0x10000, 4)
	at(hhea, 4, h.Ascent, 2)
	at(hhea, 6, h.Descent, 2)
	at(hhea, 8, h.Gap, 2)
	at(hhea, 34, h.Metrics, 2)
	at(maxp, 0, 0x10000, 4)
	at(maxp, 4, h.Glyphs, 2)
	return []api.Table{{Tag: "head", Data: string(head)}, {Tag: "hhea", Data: string(hhea)}, {Tag: "maxp", Data: string(maxp)}}
}

// with is s with other bytes at a place.
func with(s string, at int, bytes string) string {
	return s[:at] + bytes + s[at+len(bytes):]
}

// changed is l with other bytes at a place of its table of a tag.
func changed(l []api.Table, tag string, at int, bytes string) []api.Table {
	var out []api.Table
	for _, t := range l {
		if t.Tag == tag {
			t.Data = with(t.Data, at, bytes)
		}
		out = append(out, t)
	}
	return out
}

// cut is l with so many bytes alone of its table of a tag.
func cut(l []api.Table, tag string, n int) []api.Table {
	var out []api.Table
	for _, t := range l {
		if t.Tag == tag {
			t.Data = t.Data[:n]
		}
		out = append(out, t)
	}
	return out
}

// without is l without its tables of a tag.
func without(l []api.Table, tag string) []api.Table {
	var out []api.Table
	for _, t := range l {
		if t.Tag != tag {
			out = append(out, t)
		}
	}
	return out
}
