package cmap_test

import (
	"encoding/binary"
	"iter"
	"slices"

	"pochoir/api"
)

// What the tests hold the package against: the chapter's words, with encoding/binary alone.

// step is a code point with its glyph, or an error that stands in its place.
type step struct {
	code, glyph int
	e           api.Errno
}

func two(s string, at int) int {
	return int(binary.BigEndian.Uint16([]byte(s[at : at+2])))
}

func four(s string, at int) int {
	return int(binary.BigEndian.Uint32([]byte(s[at : at+4])))
}

// parsed is what Parse must answer.
func parsed(s string, glyphs int) ([]api.Pair, api.Errno) {
	if glyphs < 1 || glyphs > 1024 {
		return nil, api.ErrArg
	}
	if len(s) < 4 || len(s) < 4+8*two(s, 2) {
		return nil, api.ErrEnd
	}
	if two(s, 0) != 0 {
		return nil, api.ErrForm
	}
	for _, c := range []struct {
		whom  string
		steps func(s string) iter.Seq[step]
	}{{"\x00\x03\x00\x0a", groups}, {"\x00\x00\x00\x04", groups}, {"\x00\x03\x00\x01", segments}, {"\x00\x00\x00\x03", segments}} {
		for i := range two(s, 2) {
			if row := s[4+8*i:][:8]; row[:4] == c.whom {
				return taken(c.steps(s[min(four(row, 4), len(s)):]), glyphs)
			}
		}
	}
	return nil, api.ErrNone
}

// taken is the pairs of steps, up to the first that is wrong.
func taken(all iter.Seq[step], glyphs int) ([]api.Pair, api.Errno) {
	var out []api.Pair
	for c := range all {
		switch {
		case c.e != api.OK:
			return nil, c.e
		case c.glyph >= glyphs:
			return nil, api.ErrForm
		case c.glyph != 0 && len(out) == 4096:
			return nil, api.ErrLong
		case c.glyph != 0:
			out = append(out, api.Pair{Code: c.code, Glyph: c.glyph})
		}
	}
	return out, api.OK
}

// groups is the steps of a part of 12 with which s begins.
func groups(s string) iter.Seq[step] {
	return func(yield func(step) bool) {
		switch {
		case len(s) < 16:
			yield(step{e: api.ErrEnd})
			return
		case two(s, 0) != 12 || two(s, 2) != 0 || four(s, 4) != 16+12*four(s, 12):
			yield(step{e: api.ErrForm})
			return
		case len(s) < four(s, 4):
			yield(step{e: api.ErrEnd})
			return
		}
		for i := range four(s, 12) {
			row := s[16+12*i:]
			from, to := four(row, 0), four(row, 4)
			if i > 0 && from <= four(s, 16+12*(i-1)+4) || to < from || to > 0x10ffff {
				yield(step{e: api.ErrForm})
				return
			}
			for k := range to - from + 1 {
				if !yield(step{code: from + k, glyph: four(row, 8) + k}) {
					return
				}
			}
		}
	}
}

// segments is the steps of a part of 4 with which s begins.
func segments(s string) iter.Seq[step] {
	return func(yield func(step) bool) {
		if e := told(s); e != api.OK {
			yield(step{e: e})
			return
		}
		s = s[:two(s, 2)]
		n := two(s, 6) / 2
		if two(s, 14+2*n) != 0 {
			yield(step{e: api.ErrForm})
			return
		}
		tos, froms, deltas, jumps := s[14:], s[16+2*n:], s[16+4*n:], s[16+6*n:]
		for i := range n {
			from, to, jump := two(froms, 2*i), two(tos, 2*i), two(jumps, 2*i)
			if i > 0 && (to <= two(tos, 2*i-2) || from <= two(tos, 2*i-2)) || to < from || i == n-1 && to != 0xffff || jump&1 == 1 {
				yield(step{e: api.ErrForm})
				return
			}
			for c := from; c <= to; c++ {
				if !yield(glyph(jumps[2*i:], c, c-from, jump, uint16(two(deltas, 2*i)))) {
					return
				}
			}
		}
	}
}

// told is what is wrong with a part of 4 ahead of its segments, and of the 0 that is among them.
func told(s string) api.Errno {
	if len(s) < 14 {
		return api.ErrEnd
	}
	// Which powers of 2 there are, and how many segments have each as the greatest that isn't above.
	n, power := two(s, 6)/2, 0
	for least := 1; 2*least <= n; least *= 2 {
		power++
	}
	reach := 2
	for range power {
		reach *= 2
	}
	switch {
	case two(s, 0) != 4, two(s, 2)&1 == 1, two(s, 6)&1 == 1, n == 0, n > 8192,
		two(s, 8) != reach, two(s, 10) != power, two(s, 12) != n+n-reach, two(s, 2) < 16+8*n:
		return api.ErrForm
	case len(s) < two(s, 2):
		return api.ErrEnd
	}
	return api.OK
}

// glyph is the step of a code point that is the one of number k of a segment, whose Jump s begins with.
func glyph(s string, code, k, jump int, delta uint16) step {
	if jump == 0 {
		return step{code: code, glyph: int(uint16(code) + delta)}
	}
	if jump+2*k+2 > len(s) {
		return step{e: api.ErrEnd}
	}
	n := uint16(two(s, jump+2*k))
	if n != 0 {
		n += delta
	}
	return step{code: code, glyph: int(n)}
}

// may is what May must answer: the codes rise, if sorted, and without those that are there twice, they are the same.
func may(l []api.Pair, glyphs int) bool {
	var codes []int
	for _, p := range l {
		if p.Code < 0 || p.Code > 0x10ffff || p.Glyph < 1 || p.Glyph > glyphs-1 {
			return false
		}
		codes = append(codes, p.Code)
	}
	return glyphs >= 1 && glyphs <= 1024 && len(l) <= 4096 && slices.Equal(codes, slices.Compact(slices.Sorted(slices.Values(codes))))
}

// made is what Make must answer.
func made(l []api.Pair, long bool) (string, api.Errno) {
	if !may(l, 1024) {
		return "", api.ErrArg
	}
	var rows [][3]int
	for i, n := 0, 0; i < len(l); i += n {
		for n = 1; i+n < len(l) && l[i+n] == (api.Pair{Code: l[i].Code + n, Glyph: l[i].Glyph + n}); n++ {
		}
		rows = append(rows, [3]int{l[i].Code, l[i].Code + n - 1, l[i].Glyph})
	}
	if long {
		return table(row{3, 10, 12}) + part12(rows...), api.OK
	}
	var all []segment
	for _, r := range rows {
		if r[1] > 0xfffe {
			return "", api.ErrArg
		}
		all = append(all, segment{from: r[0], to: r[1], delta: r[2] - r[0]})
	}
	return table(row{3, 1, 12}) + part4(append(all, segment{from: 0xffff, to: 0xffff, delta: 1})), api.OK
}

// row is one of a table: for whom it is, and where.
type row struct {
	one, other, at int
}

// segment is one of a part of 4.
type segment struct {
	from, to, delta, jump int
}

func short(l ...int) string {
	var b []byte
	for _, n := range l {
		b = binary.BigEndian.AppendUint16(b, uint16(n))
	}
	return string(b)
}

func wide(l ...int) string {
	var b []byte
	for _, n := range l {
		b = binary.BigEndian.AppendUint32(b, uint32(n))
	}
	return string(b)
}

// table is what is ahead of a table's parts.
func table(l ...row) string {
	out := short(0, len(l))
	for _, r := range l {
		out += short(r.one, r.other) + wide(r.at)
	}
	return out
}

// part12 is a part of 12 of these groups.
func part12(l ...[3]int) string {
	b := []byte(short(12, 0) + wide(16+12*len(l), 0, len(l)))
	for _, g := range l {
		b = append(b, wide(g[0], g[1], g[2])...)
	}
	return string(b)
}

// part4 is a part of 4 of these segments, with numbers behind them.
func part4(l []segment, behind ...int) string {
	n, reach, power := len(l), 2, 0
	for reach <= n {
		reach, power = 2*reach, power+1
	}
	out := short(4, 16+8*n+2*len(behind), 0, 2*n, reach, power, 2*n-reach)
	b := []byte(out)
	for _, g := range l {
		b = append(b, short(g.to)...)
	}
	b = append(b, 0, 0)
	for _, g := range l {
		b = append(b, short(g.from)...)
	}
	for _, g := range l {
		b = append(b, short(g.delta)...)
	}
	for _, g := range l {
		b = append(b, short(g.jump)...)
	}
	return string(b) + short(behind...)
}
