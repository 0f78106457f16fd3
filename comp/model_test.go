package comp_test

import (
	"encoding/binary"
	"math/big"

	"pochoir/api"
)

// What the tests hold the package against: the chapter's words, with encoding/binary and math/big alone.

// left is what is left of a glyph's bytes.
type left string

// need panics with an error that the one who asked for an answer catches.
func need(ok bool, e api.Errno) {
	if !ok {
		panic(e)
	}
}

// take is the next n bytes.
func (s *left) take(n int) string {
	need(len(*s) >= n, api.ErrEnd)
	out := (*s)[:n]
	*s = (*s)[n:]
	return string(out)
}

// plain is the number in two bytes.
func plain(s string) int {
	return int(binary.BigEndian.Uint16([]byte(s)))
}

// turned is the number with a sign in all of s, one byte or two.
func turned(s string) int {
	if len(s) == 1 {
		n := int(s[0])
		if n >= 128 {
			n -= 256
		}
		return n
	}
	n := plain(s)
	if n >= 32768 {
		n -= 65536
	}
	return n
}

// is is what Is must answer.
func is(s string) bool {
	return len(s) >= 2 && s[0] >= 128
}

// parsed is what Parse must answer.
func parsed(s string, glyphs int) (l []api.Part, e api.Errno) {
	defer func() {
		if r := recover(); r != nil {
			l, e = nil, r.(api.Errno)
		}
	}()
	need(glyphs >= 1 && glyphs <= 1024, api.ErrArg)
	rest := left(s)
	first := rest.take(10)
	need(is(first), api.ErrForm)
	for {
		need(len(l) < 64, api.ErrLong)
		p, another := parsedPart(&rest, glyphs)
		l = append(l, p)
		if !another {
			return l, api.OK
		}
	}
}

// parsedPart is the next part, and whether another one follows.
func parsedPart(rest *left, glyphs int) (api.Part, bool) {
	start := rest.take(4)
	var bit [16]int
	for i := range bit {
		bit[i] = plain(start[:2]) >> i & 1
	}
	need(bit[1] == 1, api.ErrForm)
	need(bit[4]+bit[11]+bit[13]+bit[14]+bit[15] == 0, api.ErrForm)
	need(bit[3]+bit[6]+bit[7] <= 1, api.ErrForm)
	glyph := plain(start[2:])
	need(glyph < glyphs, api.ErrForm)
	each := 1 + bit[0]
	numbers := bit[3] + 2*bit[6] + 4*bit[7]
	moves, turns := rest.take(2*each), rest.take(2*numbers)
	p := api.Part{Glyph: glyph, DX: turned(moves[:each]), DY: turned(moves[each:]), A: 16384, D: 16384}
	switch numbers {
	case 1:
		p.A, p.D = turned(turns), turned(turns)
	case 2:
		p.A, p.D = turned(turns[:2]), turned(turns[2:])
	case 4:
		p.A, p.B, p.C, p.D = turned(turns[:2]), turned(turns[2:4]), turned(turns[4:6]), turned(turns[6:])
	}
	return p, bit[5] == 1
}

// may is what May must answer.
func may(l []api.Part, glyphs int) bool {
	if glyphs < 1 || glyphs > 1024 || len(l) < 1 || len(l) > 64 {
		return false
	}
	for _, p := range l {
		if p.Glyph < 0 || p.Glyph >= glyphs {
			return false
		}
		for _, n := range []int{p.DX, p.DY, p.A, p.B, p.C, p.D} {
			if n != int(int16(n)) {
				return false
			}
		}
	}
	return true
}

// made is what Make must answer.
func made(l []api.Part) (string, api.Errno) {
	if !may(l, 1024) {
		return "", api.ErrArg
	}
	out := "\xff\xff\x00\x00\x00\x00\x00\x00\x00\x00"
	for i, p := range l {
		bits, rest := 2, string([]byte{byte(p.DX), byte(p.DY)})
		if i+1 < len(l) {
			bits += 32
		}
		if p.DX != int(int8(p.DX)) || p.DY != int(int8(p.DY)) {
			bits, rest = bits+1, short(p.DX, p.DY)
		}
		upright := p.B == 0 && p.C == 0
		switch {
		case upright && p.A == 16384 && p.D == 16384:
		case upright && p.A == p.D:
			bits, rest = bits+8, rest+short(p.A)
		case upright:
			bits, rest = bits+64, rest+short(p.A, p.D)
		default:
			bits, rest = bits+128, rest+short(p.A, p.B, p.C, p.D)
		}
		out += short(bits, p.Glyph) + rest
	}
	return out, api.OK
}

// moved is what Move must answer.
func moved(p api.Part, x, y int) (int, int, api.Errno) {
	unit := func(n int) bool { return n > -32768 && n < 32768 }
	if !may([]api.Part{p}, 1024) || !unit(x) || !unit(y) {
		return 0, 0, api.ErrArg
	}
	atX, atY := become(p.A, x, p.C, y, p.DX), become(p.B, x, p.D, y, p.DY)
	if !unit(atX) || !unit(atY) {
		return 0, 0, api.ErrOver
	}
	return atX, atY, api.OK
}

// become is a times x and b times y, by 2^14, rounded to the nearest whole number, of two as near the greater one, and d.
func become(a, x, b, y, d int) int {
	n := new(big.Int).Mul(big.NewInt(int64(a)), big.NewInt(int64(x)))
	n.Add(n, new(big.Int).Mul(big.NewInt(int64(b)), big.NewInt(int64(y))))
	exact := new(big.Rat).SetFrac(n, big.NewInt(16384))
	// DivMod's quotient is rounded down, as what it divides by is above 0.
	low, _ := new(big.Int).DivMod(exact.Num(), exact.Denom(), new(big.Int))
	over := new(big.Rat).Sub(exact, new(big.Rat).SetInt(low))
	if over.Cmp(big.NewRat(1, 2)) >= 0 {
		low.Add(low, big.NewInt(1))
	}
	return int(low.Int64()) + d
}

// short is numbers in two bytes each.
func short(l ...int) string {
	var b []byte
	for _, n := range l {
		b = binary.BigEndian.AppendUint16(b, uint16(n))
	}
	return string(b)
}
