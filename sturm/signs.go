package sturm

import (
	"pochoir/api"
	"pochoir/big"
	"pochoir/poly"
)

// place is a number, whether a chain's polynomial is 0 there, and how often the chain's signs change just below it, and just above it.
type place struct {
	at           api.Ratio
	zero         bool
	below, above int
}

// placeOf is what there is at x. It asks that the chain is one that Chain answers, and that x may be.
func placeOf(chain [][]api.Big, x api.Ratio) place {
	below, above := make([]int, len(chain)), make([]int, len(chain))
	for i, p := range chain {
		below[i], above[i] = beside(p, x)
	}
	return place{x, sign(chain[0], x) == 0, changes(below), changes(above)}
}

// count is how many unlike numbers there are between lo and hi at which the chain's polynomial is 0. The signs beside lo and hi tell it, for where the polynomial is 0 more than once the whole chain is 0.
func count(lo, hi place) int {
	return lo.above - hi.below
}

// passes is at how many numbers above a and below b p goes through 0: those that it has an odd number of times. What p and its derivative share is the chain's last one, and has each number once less than p: so it goes through 0 at just those that p has an even number of times.
func passes(p []api.Big, a, b api.Ratio) int {
	chain, e := Chain(p)
	if e != api.OK || len(chain) == 1 {
		return 0
	}
	return count(placeOf(chain, a), placeOf(chain, b)) - passes(chain[len(chain)-1], a, b)
}

// changes is how often one of the signs is unlike the one ahead, without those that are 0.
func changes(signs []int) int {
	n, ahead := 0, 0
	for _, s := range signs {
		if s*ahead < 0 {
			n++
		}
		if s != 0 {
			ahead = s
		}
	}
	return n
}

// sign is -1, 0, 1: p is below 0, 0, above 0 at x, which may be.
func sign(p []api.Big, x api.Ratio) int {
	// At is p's value times what is above 0.
	value, _ := poly.At(p, x)
	return big.Sign(value)
}

// beside is p's sign just below x, and just above it. It asks that p isn't 0, and that x may be.
func beside(p []api.Big, x api.Ratio) (below, above int) {
	if s := sign(p, x); s != 0 {
		return s, s
	}
	// Each D x - N that is taken out is below 0 just below x, and above 0 just above it.
	rest, times, _ := poly.Without(p, x)
	above = sign(rest, x)
	if times%2 != 0 {
		return -above, above
	}
	return above, above
}
