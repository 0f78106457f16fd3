package table_test

import (
	"encoding/binary"
	"strings"

	"pochoir/api"
)

// What the tests hold the package against: the chapter's words, byte by byte, with encoding/binary alone.

// line is a row of a directory, but for its sum.
type line struct {
	tag      string
	at, size uint32
}

func long(n uint32) string {
	return string(binary.BigEndian.AppendUint32(nil, n))
}

func short(n int) string {
	return string(binary.BigEndian.AppendUint16(nil, uint16(n)))
}

// four is the bytes of n, of the greatest power of 2 that isn't above it, times 16, of which power that is, and of what is left.
func four(n int) string {
	most, power := 1, 0
	for most*2 <= n {
		most, power = most*2, power+1
	}
	return short(n) + short(16*most) + short(power) + short(16*n-16*most)
}

// added is the sum of a table's bytes, those of head that don't count taken for 0.
func added(tag, data string) uint32 {
	n := uint32(0)
	for i, b := range []byte(data) {
		if tag == "head" && i >= 8 && i <= 11 {
			b = 0
		}
		n += uint32(b) << (8 * (3 - i%4))
	}
	return n
}

// font is a directory of such rows, and what is behind it; of a table that isn't all there the sum is 0.
func font(behind string, lines ...line) string {
	s := func(sums []uint32) string {
		out := "\x00\x01\x00\x00" + four(len(lines))
		for i, l := range lines {
			out += l.tag + long(sums[i]) + long(l.at) + long(l.size)
		}
		return out + behind
	}
	sums := make([]uint32, len(lines))
	bytes := s(sums)
	for i, l := range lines {
		if end := uint64(l.at) + uint64(l.size); end <= uint64(len(bytes)) && l.at >= uint32(12+16*len(lines)) {
			sums[i] = added(l.tag, bytes[l.at:end])
		}
	}
	return s(sums)
}

// with is s with other bytes at a place.
func with(s string, at int, bytes string) string {
	return s[:at] + bytes + s[at+len(bytes):]
}

// parsed is what Parse must answer. Whose a byte is, is kept for each byte.
func parsed(s string) ([]api.Table, api.Errno) {
	switch {
	case len(s) > 1<<20:
		return nil, api.ErrLong
	case len(s) < 12:
		return nil, api.ErrEnd
	case s[:4] != "\x00\x01\x00\x00" && s[:4] != "true":
		return nil, api.ErrForm
	}
	n := int(s[4])*256 + int(s[5])
	switch {
	case n == 0:
		return nil, api.ErrForm
	case n > 64:
		return nil, api.ErrLong
	case s[4:12] != four(n):
		return nil, api.ErrForm
	case len(s) < 12+16*n:
		return nil, api.ErrEnd
	}
	taken := make([]bool, len(s))
	var out []api.Table
	ahead := ""
	for i := range n {
		r := s[12+16*i : 28+16*i]
		tag := r[:4]
		if strings.ContainsFunc(tag, func(c rune) bool { return c < 32 || c > 126 }) || tag <= ahead {
			return nil, api.ErrForm
		}
		ahead = tag
		total := binary.BigEndian.Uint32([]byte(r[4:]))
		at := int64(binary.BigEndian.Uint32([]byte(r[8:])))
		size := int64(binary.BigEndian.Uint32([]byte(r[12:])))
		if at%4 > 0 || at < int64(12+16*n) {
			return nil, api.ErrForm
		}
		if at+size > int64(len(s)) {
			return nil, api.ErrEnd
		}
		for j := at; j < at+size; j++ {
			if taken[j] {
				return nil, api.ErrForm
			}
			taken[j] = true
		}
		data := s[at : at+size]
		if added(tag, data) != total {
			return nil, api.ErrSum
		}
		out = append(out, api.Table{Tag: tag, Data: data})
	}
	return out, api.OK
}

// made is what Make must answer of tables that may be, and aren't too many.
func made(l []api.Table) string {
	out, behind := "\x00\x01\x00\x00"+four(len(l)), ""
	for _, t := range l {
		at := 12 + 16*len(l) + len(behind)
		out += t.Tag + long(added(t.Tag, t.Data)) + long(uint32(at)) + long(uint32(len(t.Data)))
		behind += t.Data
		for len(behind)%4 > 0 {
			behind += "\x00"
		}
	}
	return out + behind
}
