package comp

import (
	"pochoir/api"
	"pochoir/octet"
)

// readParts is the parts, from the first one on.
func readParts(r *octet.Reader, glyphs int) ([]api.Part, api.Errno) {
	var l []api.Part
	for another := true; another; {
		if len(l) == api.MaxParts {
			return nil, api.ErrLong
		}
		p, follows, e := readPart(r, glyphs)
		if e != api.OK {
			return nil, e
		}
		l = append(l, p)
		another = follows
	}
	return l, api.OK
}

// readPart is the next part, and whether another one follows. ErrEnd: it isn't all there; ErrForm: a bit or a glyph that may not be, where these are there.
func readPart(r *octet.Reader, glyphs int) (api.Part, bool, api.Errno) {
	bits := r.U16()
	glyph := int(r.U16())
	if r.Err() != api.OK {
		return api.Part{}, false, api.ErrEnd
	}
	if !mayBits(bits) || glyph >= glyphs {
		return api.Part{}, false, api.ErrForm
	}
	p := api.Part{Glyph: glyph, A: whole, D: whole}
	readMove(r, bits, &p)
	readNumbers(r, bits, &p)
	if r.Err() != api.OK {
		return api.Part{}, false, api.ErrEnd
	}
	return p, bits&further != 0, api.OK
}

// mayBits tells whether a part may have these bits.
func mayBits(bits uint16) bool {
	if bits&must == 0 || bits&never != 0 {
		return false
	}
	switch bits & (oneNumber | twoNumbers | fourNumbers) {
	case 0, oneNumber, twoNumbers, fourNumbers:
		return true
	}
	return false
}

// readMove takes how far a part is moved.
func readMove(r *octet.Reader, bits uint16, p *api.Part) {
	if bits&longMove != 0 {
		p.DX = int(r.I16())
		p.DY = int(r.I16())
		return
	}
	p.DX = int(int8(r.U8()))
	p.DY = int(int8(r.U8()))
}

// readNumbers takes those of a part's four numbers that are there; mayBits holds of its bits.
func readNumbers(r *octet.Reader, bits uint16, p *api.Part) {
	switch {
	case bits&oneNumber != 0:
		p.A = int(r.I16())
		p.D = p.A
	case bits&twoNumbers != 0:
		p.A = int(r.I16())
		p.D = int(r.I16())
	case bits&fourNumbers != 0:
		p.A = int(r.I16())
		p.B = int(r.I16())
		p.C = int(r.I16())
		p.D = int(r.I16())
	}
}
