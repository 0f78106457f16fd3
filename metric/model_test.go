package metric_test

import (
	"encoding/binary"
	"math"

	"pochoir/api"
)

// What the tests hold the package against: the chapter's words, with encoding/binary alone.

// may tells whether h may be, by the words of layer 10.
func may(h api.Head) bool {
	for _, c := range [][3]int{{16, h.Em, 16384}, {1, h.Glyphs, 1024}, {1, h.Metrics, h.Glyphs}, {-32768, h.Ascent, 32767}, {-32768, h.Descent, 32767}, {-32768, h.Gap, 32767}} {
		if c[1] < c[0] || c[1] > c[2] {
			return false
		}
	}
	return true
}

// widths is what Widths must answer: the table's bytes are taken off one number after the other.
func widths(h api.Head, hmtx string) ([]int, api.Errno) {
	if !may(h) {
		return nil, api.ErrArg
	}
	var out []int
	last := 0
	for i := range h.Glyphs {
		size := 2
		if i < h.Metrics {
			size = 4
		}
		if len(hmtx) < size {
			return nil, api.ErrEnd
		}
		if i < h.Metrics {
			last = int(binary.BigEndian.Uint16([]byte(hmtx)[:2]))
		}
		out = append(out, last)
		hmtx = hmtx[size:]
	}
	return out, api.OK
}

// places is what Places must answer: all numbers are read, then held against each other.
func places(h api.Head, loca string, size int) ([]int, api.Errno) {
	if !may(h) {
		return nil, api.ErrArg
	}
	var out []int
	for range h.Glyphs + 1 {
		switch {
		case h.Long && len(loca) >= 4:
			out = append(out, int(binary.BigEndian.Uint32([]byte(loca)[:4])))
			loca = loca[4:]
		case !h.Long && len(loca) >= 2:
			n := int(binary.BigEndian.Uint16([]byte(loca)[:2]))
			out = append(out, n+n)
			loca = loca[2:]
		default:
			return nil, api.ErrEnd
		}
	}
	next := append(out[1:len(out):len(out)], size)
	for i, p := range out {
		if next[i] < p {
			return nil, api.ErrForm
		}
	}
	return out, api.OK
}

// hmtx is what Hmtx must answer.
func hmtx(h api.Head, widths []int) (string, api.Errno) {
	if !may(h) || len(widths) != h.Glyphs {
		return "", api.ErrArg
	}
	for _, w := range widths {
		if w < 0 || w >= 1<<16 {
			return "", api.ErrArg
		}
	}
	for _, w := range widths[h.Metrics:] {
		if w != widths[h.Metrics-1] {
			return "", api.ErrArg
		}
	}
	b := make([]byte, 4*h.Metrics+2*(h.Glyphs-h.Metrics))
	for i, w := range widths[:h.Metrics] {
		binary.BigEndian.PutUint16(b[4*i:], uint16(w))
	}
	return string(b), api.OK
}

// loca is what Loca must answer.
func loca(h api.Head, places []int) (string, api.Errno) {
	if !may(h) || len(places) != h.Glyphs+1 {
		return "", api.ErrArg
	}
	var b []byte
	ahead := math.MinInt
	for _, p := range places {
		if p < 0 || p > 1<<20 || p < ahead {
			return "", api.ErrArg
		}
		ahead = p
		if h.Long {
			b = binary.BigEndian.AppendUint32(b, uint32(p))
			continue
		}
		if p&1 == 1 || p > 131070 {
			return "", api.ErrArg
		}
		b = binary.BigEndian.AppendUint16(b, uint16(p>>1))
	}
	return string(b), api.OK
}
