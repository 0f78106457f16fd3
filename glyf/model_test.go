package glyf_test

import (
	"encoding/binary"
	"strings"

	"pochoir/api"
)

// What the tests hold the package against: the chapter's words, with encoding/binary alone.

// left is what is left of a glyph's bytes.
type left string

// need panics with an error that the one who asked for an answer catches.
func need(ok bool, e api.Errno) {
	if !ok {
		panic(e)
	}
}

// take is the next n bytes.
func (s *left) take(n int) string {
	need(len(*s) >= n, api.ErrEnd)
	out := (*s)[:n]
	*s = (*s)[n:]
	return string(out)
}

// two is the number in the next two bytes.
func (s *left) two() int {
	return int(binary.BigEndian.Uint16([]byte(s.take(2))))
}

// parsed is what Parse must answer.
func parsed(s string) (l [][]api.Point, e api.Errno) {
	defer func() {
		if r := recover(); r != nil {
			l, e = nil, r.(api.Errno)
		}
	}()
	if s == "" {
		return nil, api.OK
	}
	rest := left(s)
	first := left(rest.take(10))
	n := first.two()
	need(n < 32768, api.ErrForm)
	need(n <= 256, api.ErrLong)
	if n == 0 {
		return nil, api.OK
	}
	numbers := left(rest.take(2 * n))
	points := 0
	for range n {
		size := numbers.two() + 1 - points
		need(size > 0, api.ErrForm)
		points += size
		l = append(l, make([]api.Point, size))
	}
	need(points <= 4096, api.ErrLong)
	size := rest.two()
	rest.take(size)
	fill(l, &rest, flagsOf(&rest, points))
	return l, api.OK
}

// flagsOf is a byte for each point.
func flagsOf(rest *left, points int) string {
	flags := ""
	for len(flags) < points {
		f := rest.take(1)
		need(f < "\x80", api.ErrForm)
		if f[0]>>3&1 == 1 {
			f = strings.Repeat(f, 1+int(rest.take(1)[0]))
		}
		flags += f
		need(len(flags) <= points, api.ErrForm)
	}
	return flags
}

// fill gives each point what its flag and the bytes behind all flags say of it.
func fill(l [][]api.Point, rest *left, flags string) {
	var all []*api.Point
	for _, c := range l {
		for i := range c {
			all = append(all, &c[i])
		}
	}
	ahead := 0
	for i, p := range all {
		ahead = unit(rest, ahead, flags[i]>>1&1, flags[i]>>4&1)
		p.X = ahead
	}
	ahead = 0
	for i, p := range all {
		ahead = unit(rest, ahead, flags[i]>>2&1, flags[i]>>5&1)
		p.Y = ahead
		p.On = flags[i]%2 == 1
	}
}

// unit is an x, or y, by that ahead of it and the two bits that tell how it is given.
func unit(rest *left, ahead int, short, other byte) int {
	switch [2]byte{short, other} {
	case [2]byte{1, 0}:
		ahead -= int(rest.take(1)[0])
	case [2]byte{1, 1}:
		ahead += int(rest.take(1)[0])
	case [2]byte{0, 0}:
		ahead += int(int16(rest.two()))
	}
	need(ahead < 32768 && ahead > -32768, api.ErrOver)
	return ahead
}

// may is what May must answer.
func may(l [][]api.Point) bool {
	var all []api.Point
	for _, c := range l {
		if len(c) < 1 {
			return false
		}
		all = append(all, c...)
	}
	for _, p := range all {
		for _, n := range []int{p.X, p.Y} {
			if n >= 32768 || n <= -32768 {
				return false
			}
		}
	}
	return len(l) < 257 && len(all) < 4097
}

// made is what Make must answer.
func made(l [][]api.Point) (s string, e api.Errno) {
	if !may(l) {
		return "", api.ErrArg
	}
	if len(l) == 0 {
		return "", api.OK
	}
	defer func() {
		if r := recover(); r != nil {
			s, e = "", r.(api.Errno)
		}
	}()
	var ends []int
	var flags, xs, ys []byte
	box := [4]int{32767, 32767, -32767, -32767}
	x, y, points := 0, 0, 0
	for _, c := range l {
		points += len(c)
		ends = append(ends, points-1)
		for _, p := range c {
			box = [4]int{min(box[0], p.X), min(box[1], p.Y), max(box[2], p.X), max(box[3], p.Y)}
			fx, bx := distance(p.X - x)
			fy, by := distance(p.Y - y)
			f := fx*2 + fy*4
			if p.On {
				f++
			}
			flags, xs, ys = append(flags, f), append(xs, bx...), append(ys, by...)
			x, y = p.X, p.Y
		}
	}
	return short(len(l)) + short(box[:]...) + short(ends...) + short(0) + string(flags) + string(xs) + string(ys), api.OK
}

// distance is the two bits of an x so far from the one ahead, moved down by one bit, and its bytes.
func distance(d int) (byte, string) {
	need(d <= 32767 && d >= -32768, api.ErrOver)
	switch {
	case d == 0:
		return 8, ""
	case d > 0 && d < 256:
		return 9, string([]byte{byte(d)})
	case d < 0 && d > -256:
		return 1, string([]byte{byte(-d)})
	}
	return 0, short(d)
}

// short is numbers in two bytes each.
func short(l ...int) string {
	var b []byte
	for _, n := range l {
		b = binary.BigEndian.AppendUint16(b, uint16(n))
	}
	return string(b)
}
