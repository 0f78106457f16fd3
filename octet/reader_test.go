package octet_test

import (
	"math"
	"testing"

	"pochoir/api"
	"pochoir/octet"
)

// model is a Reader that is told plainly: what is ahead of it, what is behind.
type model struct {
	ahead  int
	behind string
	failed bool
}

// step is a call that reads or skips: its name, its number of the Reader and that of the model.
type step struct {
	name string
	real func(*octet.Reader) int64
	said func(*model) int64
}

// take is the next n bytes' number, 0 if there aren't so many.
func (m *model) take(n int) int64 {
	if m.failed || n < 0 || len(m.behind) < n {
		m.failed = true
		return 0
	}
	number := int64(0)
	for _, b := range []byte(m.behind[:n]) {
		number = number*256 + int64(b)
	}
	m.ahead, m.behind = m.ahead+n, m.behind[n:]
	return number
}

// skip is the step Skip(n).
func skip(name string, n int) step {
	return step{
		name,
		func(r *octet.Reader) int64 {
			r.Skip(n)
			return 0
		},
		func(m *model) int64 {
			m.take(n)
			return 0
		},
	}
}

// steps are all calls that read or skip.
func steps() []step {
	return []step{
		{"U8", func(r *octet.Reader) int64 { return int64(r.U8()) }, func(m *model) int64 { return m.take(1) }},
		{"U16", func(r *octet.Reader) int64 { return int64(r.U16()) }, func(m *model) int64 { return m.take(2) }},
		{"I16", func(r *octet.Reader) int64 { return int64(r.I16()) }, func(m *model) int64 {
			n := m.take(2)
			if n >= 1<<15 {
				n -= 1 << 16
			}
			return n
		}},
		{"U32", func(r *octet.Reader) int64 { return int64(r.U32()) }, func(m *model) int64 { return m.take(4) }},
		skip("Skip 0", 0),
		skip("Skip 1", 1),
		skip("Skip 3", 3),
		skip("Skip -1", -1),
		skip("Skip greatest", math.MaxInt),
		skip("Skip least", math.MinInt),
	}
}

// checkState holds At, Left and Err against the model; they change nothing, so they are asked twice.
func checkState(t *testing.T, trail string, r *octet.Reader, m *model) {
	t.Helper()
	want := api.OK
	if m.failed {
		want = api.ErrEnd
	}
	for range 2 {
		if r.At() != m.ahead || r.Left() != len(m.behind) || r.Err() != want {
			t.Errorf("%s: at %d, left %d, err %d; want %d, %d, %d", trail, r.At(), r.Left(), r.Err(), m.ahead, len(m.behind), want)
		}
	}
}

// Each row of up to four calls is gone through, of texts that end within and behind them.
func TestReaderRows(t *testing.T) {
	all := steps()
	for length := 0; length <= 9; length++ {
		s := mixed[len(mixed)-length:]
		var row [4]int
		for n := range len(all) * len(all) * len(all) * len(all) {
			left := n
			for i := range row {
				row[i], left = left%len(all), left/len(all)
			}
			r, m := octet.New(s), &model{behind: s}
			trail := "New"
			for _, i := range row {
				trail += ", " + all[i].name
				if got, want := all[i].real(r), all[i].said(m); got != want {
					t.Errorf("%q: %s: %d; want %d", s, trail, got, want)
				}
				checkState(t, trail, r, m)
			}
			if t.Failed() {
				return
			}
		}
	}
}

func TestReaderNumbers(t *testing.T) {
	r := octet.New("\xff\x01\x02\xff\xfe\xff\xfe\xfd\xfc")
	if n := r.U8(); n != 255 || r.At() != 1 || r.Left() != 8 {
		t.Error("U8", n, r.At(), r.Left())
	}
	if n := r.U16(); n != 258 || r.At() != 3 || r.Left() != 6 {
		t.Error("U16", n, r.At(), r.Left())
	}
	if n := r.I16(); n != -2 || r.At() != 5 || r.Left() != 4 {
		t.Error("I16", n, r.At(), r.Left())
	}
	if n := r.U32(); n != 0xfffefdfc || r.At() != 9 || r.Left() != 0 {
		t.Error("U32", n, r.At(), r.Left())
	}
	if r.Skip(0); r.Err() != api.OK || r.At() != 9 {
		t.Error("Skip of nothing at the end:", r.Err(), r.At())
	}
	if n := r.U8(); n != 0 || r.Err() != api.ErrEnd || r.At() != 9 || r.Left() != 0 {
		t.Error("U8 at the end:", n, r.Err(), r.At(), r.Left())
	}
}

func TestReaderSigns(t *testing.T) {
	for n := range 1 << 16 {
		r := octet.New(octet.P16(uint16(n)))
		want := n
		if n >= 1<<15 {
			want -= 1 << 16
		}
		if got := int(r.I16()); got != want || r.Err() != api.OK {
			t.Fatalf("I16 of %d: %d, %d; want %d", n, got, r.Err(), want)
		}
	}
}

// Once it has failed, bytes that are there aren't read any more, and it stays where it is.
func TestReaderFailed(t *testing.T) {
	for _, c := range []struct {
		name string
		fail func(*octet.Reader)
	}{
		{"U16", func(r *octet.Reader) { r.Skip(6); r.U16() }},
		{"I16", func(r *octet.Reader) { r.Skip(6); r.I16() }},
		{"U32", func(r *octet.Reader) { r.Skip(6); r.U32() }},
		{"Skip 2", func(r *octet.Reader) { r.Skip(6); r.Skip(2) }},
		{"Skip greatest", func(r *octet.Reader) { r.Skip(6); r.Skip(math.MaxInt) }},
		{"Skip -1", func(r *octet.Reader) { r.Skip(6); r.Skip(-1) }},
		{"Skip least", func(r *octet.Reader) { r.Skip(6); r.Skip(math.MinInt) }},
	} {
		r := octet.New("\x01\x02\x03\x04\x05\x06\x07")
		c.fail(r)
		for _, s := range steps() {
			if n := s.real(r); n != 0 || r.Err() != api.ErrEnd || r.At() != 6 || r.Left() != 1 {
				t.Errorf("%s, then %s: %d, err %d, at %d, left %d", c.name, s.name, n, r.Err(), r.At(), r.Left())
			}
		}
	}
}

func TestReaderNil(t *testing.T) {
	var r *octet.Reader
	for _, s := range steps() {
		if n := s.real(r); n != 0 || r.Err() != api.ErrEnd || r.At() != 0 || r.Left() != 0 {
			t.Errorf("%s of nil: %d, err %d, at %d, left %d", s.name, n, r.Err(), r.At(), r.Left())
		}
	}
}

// A Reader that New didn't make is one of no bytes.
func TestReaderZero(t *testing.T) {
	for _, s := range steps() {
		var r octet.Reader
		m := &model{}
		checkState(t, "zero", &r, m)
		if got, want := s.real(&r), s.said(m); got != want {
			t.Errorf("%s: %d; want %d", s.name, got, want)
		}
		checkState(t, s.name, &r, m)
	}
}

// Readers of one text know nothing of each other.
func TestReadersApart(t *testing.T) {
	a, b := octet.New(mixed), octet.New(mixed)
	a.Skip(4)
	a.Skip(-1)
	if b.At() != 0 || b.Left() != len(mixed) || b.Err() != api.OK {
		t.Error(b.At(), b.Left(), b.Err())
	}
	if n := b.U32(); n != 0x00017f80 || a.At() != 4 {
		t.Error(n, a.At())
	}
}
