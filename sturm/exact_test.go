package sturm_test

import (
	"math"
	exact "math/big"
	"slices"
	"strings"

	"pochoir/api"
)

// What the tests hold the package against: polynomials of fractions, reckoned with math/big alone.

const (
	least = math.MinInt64
	most  = math.MaxInt64
)

// whole is v in its one form.
func whole(v *exact.Int) api.Big {
	out := api.Big{Neg: v.Sign() < 0}
	for rest := new(exact.Int).Abs(v); rest.Sign() > 0; rest.Rsh(rest, 32) {
		out.Digits = append(out.Digits, uint32(new(exact.Int).And(rest, exact.NewInt(math.MaxUint32)).Uint64()))
	}
	return out
}

func number(a api.Big) *exact.Int {
	v := new(exact.Int)
	for i := len(a.Digits) - 1; i >= 0; i-- {
		v.Lsh(v, 32)
		v.Add(v, exact.NewInt(int64(a.Digits[i])))
	}
	if a.Neg {
		v.Neg(v)
	}
	return v
}

// of is a polynomial with these coefficients, with the zeros at its top.
func of(l ...int64) []api.Big {
	var out []api.Big
	for _, n := range l {
		out = append(out, whole(exact.NewInt(n)))
	}
	return out
}

// odd is p in another form: its numbers have zeros for their highest digits, its zeros say Neg, and there are more of them at its top.
func odd(p []api.Big) []api.Big {
	out := []api.Big{}
	for _, c := range p {
		out = append(out, api.Big{Neg: c.Neg || len(c.Digits) == 0, Digits: append(slices.Clone(c.Digits), 0, 0)})
	}
	return append(out, api.Big{Neg: true}, api.Big{Digits: []uint32{0}}, api.Big{Neg: true, Digits: []uint32{0, 0}})
}

// product is that of polynomials, each with zeros at its top or without.
func product(l ...[]api.Big) []api.Big {
	out := of(1)
	for _, p := range l {
		sum := make([]*exact.Int, len(out)+len(p))
		for i := range sum {
			sum[i] = new(exact.Int)
		}
		for i, a := range out {
			for j, b := range p {
				sum[i+j].Add(sum[i+j], new(exact.Int).Mul(number(a), number(b)))
			}
		}
		for len(sum) > 0 && sum[len(sum)-1].Sign() == 0 {
			sum = sum[:len(sum)-1]
		}
		out = nil
		for _, c := range sum {
			out = append(out, whole(c))
		}
	}
	return out
}

func power(p []api.Big, n int) []api.Big {
	return product(slices.Repeat([][]api.Big{p}, n)...)
}

// tell is p's coefficients as a text, for what failed.
func tell(p []api.Big) string {
	var out []string
	for _, c := range p {
		out = append(out, number(c).String())
	}
	return "[" + strings.Join(out, " ") + "]"
}

func value(x api.Ratio) *exact.Rat {
	return new(exact.Rat).SetFrac64(x.N, x.D)
}

// line is a polynomial of fractions; the last coefficient isn't 0.
type line []*exact.Rat

func (p line) cut() line {
	for len(p) > 0 && p[len(p)-1].Sign() == 0 {
		p = p[:len(p)-1]
	}
	return p
}

func lineOf(p []api.Big) line {
	var out line
	for _, c := range p {
		out = append(out, new(exact.Rat).SetInt(number(c)))
	}
	return out.cut()
}

func (p line) at(x *exact.Rat) *exact.Rat {
	sum := new(exact.Rat)
	for i := len(p) - 1; i >= 0; i-- {
		sum.Mul(sum, x)
		sum.Add(sum, p[i])
	}
	return sum
}

func (p line) derived() line {
	var out line
	for i := 1; i < len(p); i++ {
		out = append(out, new(exact.Rat).Mul(p[i], exact.NewRat(int64(i), 1)))
	}
	return out
}

// divided is p by q, and what is left over.
func (p line) divided(q line) (often, left line) {
	for _, c := range p {
		left = append(left, new(exact.Rat).Set(c))
		often = append(often, new(exact.Rat))
	}
	for len(left) >= len(q) {
		shift := len(left) - len(q)
		share := new(exact.Rat).Quo(left[len(left)-1], q[len(q)-1])
		for i, c := range q {
			left[shift+i].Sub(left[shift+i], new(exact.Rat).Mul(share, c))
		}
		often[shift] = share
		left = left[:len(left)-1].cut()
	}
	return often.cut(), left
}

// once is p without what it has more than once: it is 0 where p is, and once at each of these.
func (p line) once() line {
	a, b := p, p.derived()
	for len(b) > 0 {
		_, left := a.divided(b)
		a, b = b, left
	}
	out, _ := p.divided(a)
	return out
}

// unlike is how many numbers above a and below b there are at which p is 0, of a p that is what once answers.
func (p line) unlike(a, b *exact.Rat) int {
	for _, x := range []*exact.Rat{a, b} {
		if p.at(x).Sign() == 0 {
			p, _ = p.divided(line{new(exact.Rat).Neg(x), exact.NewRat(1, 1)})
		}
	}
	n, first, last := 0, 0, 0
	for q, r := p, p.derived(); len(q) > 0; {
		s, t := q.at(a).Sign(), q.at(b).Sign()
		if s*first < 0 {
			n++
		}
		if t*last < 0 {
			n--
		}
		if s != 0 {
			first = s
		}
		if t != 0 {
			last = t
		}
		if len(r) == 0 {
			break
		}
		_, left := q.divided(r)
		for _, c := range left {
			c.Neg(c)
		}
		q, r = r, left
	}
	return n
}

// samples are numbers from a up to b; at least one of them is in each piece that the numbers at which p is 0 leave there.
func (p line) samples(a, b *exact.Rat) []*exact.Rat {
	out := []*exact.Rat{a, b}
	n := p.unlike(a, b)
	if n == 1 && p.at(a).Sign() != 0 && p.at(b).Sign() != 0 {
		return out
	}
	mid := new(exact.Rat).Add(a, b)
	mid.Mul(mid, exact.NewRat(1, 2))
	for p.at(mid).Sign() == 0 {
		mid.Add(mid, a)
		mid.Mul(mid, exact.NewRat(1, 2))
	}
	out = append(out, mid)
	if n == 0 {
		return out
	}
	return append(append(out, p.samples(a, mid)...), p.samples(mid, b)...)
}
