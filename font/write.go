package font

import (
	"cmp"
	"slices"
	"strings"

	"pochoir/api"
	"pochoir/cmap"
	"pochoir/comp"
	"pochoir/glyf"
)

// lastShort is the greatest code point that a part of 4 can tell of.
const lastShort = 0xfffe

// tellShapes is the table glyf of shapes, and where in it each one begins, and the last one ends. Each has an even length, so that half of a place is a whole number.
func tellShapes(l []api.Shape) (string, []int, api.Errno) {
	var b strings.Builder
	places := []int{0}
	for _, s := range l {
		data, e := tellShape(s)
		if e != api.OK {
			return "", nil, e
		}
		b.WriteString(data)
		if len(data)%2 != 0 {
			b.WriteByte(0)
		}
		places = append(places, b.Len())
	}
	return b.String(), places, api.OK
}

// tellShape is the bytes of a shape.
func tellShape(s api.Shape) (string, api.Errno) {
	if len(s.Parts) > 0 {
		return comp.Make(s.Parts)
	}
	return glyf.Make(s.Contours)
}

// tellPairs is the table cmap of pairs, whose codes rise.
func tellPairs(l []api.Pair) (string, api.Errno) {
	long := len(l) > 0 && l[len(l)-1].Code > lastShort
	return cmap.Make(l, long)
}

// sortTables brings tables into the order that a directory asks for.
func sortTables(l []api.Table) {
	slices.SortFunc(l, func(a, b api.Table) int { return cmp.Compare(a.Tag, b.Tag) })
}
