package octet

import "pochoir/api"

// Reader goes through a text's bytes from number to number. Once it has failed it reads nothing any more, and still tells where it is.
type Reader struct {
	text   string
	at     int
	failed bool
}

// New is a Reader at 0 of s.
func New(s string) *Reader {
	return &Reader{text: s}
}

// U8 is the next byte; 0, if there is none.
func (r *Reader) U8() uint8 {
	return uint8(r.next(1))
}

// U16 is the number in the next two bytes; 0, if they aren't both there.
func (r *Reader) U16() uint16 {
	return uint16(r.next(2))
}

// I16 is the number with a sign in the next two bytes; 0, if they aren't both there.
func (r *Reader) I16() int16 {
	return int16(r.next(2))
}

// U32 is the number in the next four bytes; 0, if they aren't all there.
func (r *Reader) U32() uint32 {
	return r.next(4)
}

// Skip goes n bytes farther on. It fails, if there aren't so many, or n is below 0.
func (r *Reader) Skip(n int) {
	r.pass(n)
}

// At is where the reader is.
func (r *Reader) At() int {
	if r == nil {
		return 0
	}
	return r.at
}

// Left is how many bytes are behind where the reader is.
func (r *Reader) Left() int {
	if r == nil {
		return 0
	}
	return len(r.text) - r.at
}

// Err is ErrEnd, if the reader has failed or is nil, else OK.
func (r *Reader) Err() api.Errno {
	if r == nil || r.failed {
		return api.ErrEnd
	}
	return api.OK
}

// next is the number in the next n bytes, at most four; 0, if they can't be passed.
func (r *Reader) next(n int) uint32 {
	if !r.pass(n) {
		return 0
	}
	return number(r.text[r.at-n : r.at])
}

// pass goes n bytes farther on, and tells whether it could; if it couldn't, the reader has failed.
func (r *Reader) pass(n int) bool {
	if r.Err() != api.OK {
		return false
	}
	if !has(r.text, r.at, n) {
		r.failed = true
		return false
	}
	r.at += n
	return true
}
