package sturm

import (
	"pochoir/api"
	"pochoir/big"
	"pochoir/ratio"
)

// spans are those of at most this width, one for each number between lo and hi at which the chain's polynomial is 0. ErrOver: ends that lie near enough to each other don't fit; as all that fit run out, this ends.
func spans(chain [][]api.Big, lo, hi place, width api.Ratio) ([]api.Span, api.Errno) {
	switch n := count(lo, hi); {
	case n == 0:
		return nil, api.OK
	case n == 1 && !lo.zero && !hi.zero && narrow(lo.at, hi.at, width):
		return []api.Span{{From: lo.at, To: hi.at}}, api.OK
	}
	x, e := between(lo.at, hi.at)
	if e != api.OK {
		return nil, e
	}
	mid := placeOf(chain, x)
	found, e := spans(chain, lo, mid, width)
	if e != api.OK {
		return nil, e
	}
	if mid.zero {
		found = append(found, api.Span{From: x, To: x})
	}
	rest, e := spans(chain, mid, hi, width)
	if e != api.OK {
		return nil, e
	}
	return append(found, rest...), api.OK
}

// narrow tells whether from and to are at most this far from each other. Their difference need not fit as a ratio, so it is reckoned with whole numbers.
func narrow(from, to, width api.Ratio) bool {
	apart := big.Sub(cross(to.N, from.D), cross(from.N, to.D))
	most := big.Mul(cross(from.D, to.D), big.Of(width.N))
	return big.Cmp(big.Mul(apart, big.Of(width.D)), most) <= 0
}

func cross(a, b int64) api.Big {
	return big.Mul(big.Of(a), big.Of(b))
}

// between is a number between lo and hi, whose D is as small a power of 2 as may be: such ends fit for long, whatever D lo and hi have. ErrOver: it doesn't fit.
func between(lo, hi api.Ratio) (api.Ratio, api.Errno) {
	mid, step, e := api.Ratio{N: 0, D: 1}, api.Ratio{N: 1 << 62, D: 1}, api.OK
	for {
		low := !rising(lo, mid)
		switch {
		case !low && rising(mid, hi):
			return mid, api.OK
		case e != api.OK:
			return api.Ratio{}, e
		case low:
			mid, e = ratio.Add(mid, step)
		default:
			mid, e = ratio.Sub(mid, step)
		}
		if e != api.OK {
			return api.Ratio{}, e
		}
		// A step that doesn't fit is refused where it would be made.
		step, e = ratio.Mul(step, api.Ratio{N: 1, D: 2})
	}
}
