package table_test

import (
	"math"
	"math/rand"
	"slices"
	"strings"
	"testing"
	"unsafe"

	"pochoir/api"
	"pochoir/table"
)

const most = 1 << 20

// tags are all of the kind 0000 up to 0064, and rise.
func tags(n int) []string {
	var out []string
	for i := range n {
		out = append(out, "00"+string([]byte{byte('0' + i/10), byte('0' + i%10)}))
	}
	return out
}

// mixed is n bytes of all kinds, of which none beside another one is the same.
func mixed(n int) string {
	out := make([]byte, n)
	for i := range out {
		out[i] = byte(i*37 + i/256 + 11)
	}
	return string(out)
}

// list is n tables, of no byte up to eight.
func list(n int) []api.Table {
	var out []api.Table
	for i, tag := range tags(n) {
		out = append(out, api.Table{Tag: tag, Data: mixed(i*5 + 3)[i*5+3-i*5%9:]})
	}
	return out
}

// checkParse holds Parse against the chapter's words.
func checkParse(t *testing.T, s string) api.Errno {
	t.Helper()
	want, f := parsed(s)
	got, e := table.Parse(s)
	if e != f || !slices.Equal(got, want) {
		t.Fatalf("Parse(%.400q) of %d bytes = %.400q, %d; want %.400q, %d", s, len(s), got, e, want, f)
	}
	return e
}

// checkMade tells whether a list is made, and parsed to itself.
func checkMade(t *testing.T, l []api.Table) {
	t.Helper()
	s, e := table.Make(l)
	if want := made(l); s != want || e != api.OK {
		t.Fatalf("Make(%.400q) = %.400q, %d; want %.400q", l, s, e, want)
	}
	if got, e := table.Parse(s); !slices.Equal(got, l) || e != api.OK {
		t.Fatalf("Parse of what is made of %.400q = %.400q, %d", l, got, e)
	}
	if e := checkParse(t, "true"+s[4:]); e != api.OK {
		t.Fatalf("Parse with the other beginning: %d", e)
	}
}

func TestMake(t *testing.T) {
	for n := 1; n <= 64; n++ {
		checkMade(t, list(n))
	}
	// A table of each length, alone and ahead of another one.
	for n := range 70 {
		for _, tag := range []string{"head", "heac", "HEAD", "    ", "~~~}"} {
			checkMade(t, []api.Table{{Tag: tag, Data: mixed(n)}})
			checkMade(t, []api.Table{{Tag: tag, Data: mixed(n)}, {Tag: "~~~~", Data: mixed(n / 2)}})
			checkMade(t, []api.Table{{Tag: tag, Data: strings.Repeat("\xff", n)}})
		}
	}
	checkMade(t, []api.Table{{Tag: "aaaa"}, {Tag: "aaab"}, {Tag: "aaac", Data: "x"}, {Tag: "aaad"}})
}

// The bytes, written out.
func TestMakeBytes(t *testing.T) {
	for _, c := range []struct {
		l    []api.Table
		want string
	}{
		{[]api.Table{{Tag: "abcd"}}, "\x00\x01\x00\x00\x00\x01\x00\x10\x00\x00\x00\x00abcd\x00\x00\x00\x00\x00\x00\x00\x1c\x00\x00\x00\x00"},
		{[]api.Table{{Tag: "abcd", Data: "\x01\x02\x03\x04\x05"}}, "\x00\x01\x00\x00\x00\x01\x00\x10\x00\x00\x00\x00abcd\x06\x02\x03\x04\x00\x00\x00\x1c\x00\x00\x00\x05\x01\x02\x03\x04\x05\x00\x00\x00"},
		{
			[]api.Table{{Tag: " ab~", Data: "\xff\xff\xff\xff\x00\x00\x00\x02"}, {Tag: "!   ", Data: "\x80\x01"}, {Tag: "head", Data: "\x00\x00\x00\x01\x00\x00\x00\x02\x00\x00\x00\x04\x00\x00\x00\x08"}},
			"\x00\x01\x00\x00\x00\x03\x00\x20\x00\x01\x00\x10" +
				" ab~\x00\x00\x00\x01\x00\x00\x00\x3c\x00\x00\x00\x08" +
				"!   \x80\x01\x00\x00\x00\x00\x00\x44\x00\x00\x00\x02" +
				"head\x00\x00\x00\x0b\x00\x00\x00\x48\x00\x00\x00\x10" +
				"\xff\xff\xff\xff\x00\x00\x00\x02\x80\x01\x00\x00\x00\x00\x00\x01\x00\x00\x00\x02\x00\x00\x00\x04\x00\x00\x00\x08",
		},
	} {
		if got, e := table.Make(c.l); got != c.want || e != api.OK {
			t.Errorf("Make(%q) = %q, %d; want %q", c.l, got, e, c.want)
		}
	}
}

// The numbers ahead of the rows, at powers of 2 and about them.
func TestMakeNumbers(t *testing.T) {
	for n, want := range map[int]string{
		1:  "\x00\x01\x00\x10\x00\x00\x00\x00",
		2:  "\x00\x02\x00\x20\x00\x01\x00\x00",
		3:  "\x00\x03\x00\x20\x00\x01\x00\x10",
		4:  "\x00\x04\x00\x40\x00\x02\x00\x00",
		7:  "\x00\x07\x00\x40\x00\x02\x00\x30",
		8:  "\x00\x08\x00\x80\x00\x03\x00\x00",
		15: "\x00\x0f\x00\x80\x00\x03\x00\x70",
		16: "\x00\x10\x01\x00\x00\x04\x00\x00",
		31: "\x00\x1f\x01\x00\x00\x04\x00\xf0",
		32: "\x00\x20\x02\x00\x00\x05\x00\x00",
		63: "\x00\x3f\x02\x00\x00\x05\x01\xf0",
		64: "\x00\x40\x04\x00\x00\x06\x00\x00",
	} {
		if got, e := table.Make(list(n)); e != api.OK || got[4:12] != want {
			t.Errorf("Make of %d tables: %.12q, %d; want %q", n, got, e, want)
		}
	}
}

func TestMakeErrors(t *testing.T) {
	many := list(65)
	wrong := slices.Clone(many)
	wrong[64].Tag = "0063"
	great := strings.Repeat("\x01", most)
	for _, c := range []struct {
		name string
		l    []api.Table
		e    api.Errno
	}{
		{"nil", nil, api.ErrArg},
		{"none", []api.Table{}, api.ErrArg},
		{"no tag", []api.Table{{}}, api.ErrArg},
		{"three bytes", []api.Table{{Tag: "abc"}}, api.ErrArg},
		{"five bytes", []api.Table{{Tag: "abcde"}}, api.ErrArg},
		{"eight bytes", []api.Table{{Tag: "abcdefgh"}}, api.ErrArg},
		{"two bytes a sign", []api.Table{{Tag: "äö"}}, api.ErrArg},
		{"the second one", []api.Table{{Tag: "abcd"}, {Tag: "abc"}}, api.ErrArg},
		{"the same twice", []api.Table{{Tag: "abcd"}, {Tag: "abcd"}}, api.ErrArg},
		{"falling", []api.Table{{Tag: "abcd"}, {Tag: "abcc"}}, api.ErrArg},
		{"falling at first", []api.Table{{Tag: "bbcd"}, {Tag: "accd"}, {Tag: "cccc"}}, api.ErrArg},
		{"falling at last", []api.Table{{Tag: "aaaa"}, {Tag: "cccc"}, {Tag: "bbbb"}}, api.ErrArg},
		{"twice, not beside", []api.Table{{Tag: "aaaa"}, {Tag: "bbbb"}, {Tag: "aaaa"}}, api.ErrArg},
		{"capitals behind", []api.Table{{Tag: "aaaa"}, {Tag: "Zzzz"}}, api.ErrArg},
		{"65", many, api.ErrLong},
		{"66", append(slices.Clone(many), api.Table{Tag: "zzzz"}), api.ErrLong},
		{"65, the last one wrong", wrong, api.ErrArg},
		{"one too great", []api.Table{{Tag: "abcd", Data: great}}, api.ErrLong},
		{"one too great, the tag wrong", []api.Table{{Tag: "abc", Data: great}}, api.ErrArg},
		{"one too great, the next tag wrong", []api.Table{{Tag: "abcd", Data: great}, {Tag: "abcd"}}, api.ErrArg},
		{"by a byte", []api.Table{{Tag: "abcd", Data: great[:most-27]}}, api.ErrLong},
		{"two, by a byte", []api.Table{{Tag: "abcd", Data: great[:most/2]}, {Tag: "abce", Data: great[:most/2-43]}}, api.ErrLong},
		{"two, by what is behind the first", []api.Table{{Tag: "abcd", Data: great[:5]}, {Tag: "abce", Data: great[:most-51]}}, api.ErrLong},
		{"two, by the second row", []api.Table{{Tag: "abcd", Data: great[:most-28]}, {Tag: "abce"}}, api.ErrLong},
		{"two, the first one too great", []api.Table{{Tag: "abcd", Data: great}, {Tag: "abce", Data: ""}}, api.ErrLong},
	} {
		if got, e := table.Make(c.l); got != "" || e != c.e {
			t.Errorf("%s: %d bytes, %d; want %d", c.name, len(got), e, c.e)
		}
	}
	for _, l := range [][]api.Table{
		{{Tag: "abcd", Data: great[:most-28]}},
		{{Tag: "abcd", Data: great[:most-29]}},
		{{Tag: "abcd", Data: great[:most-31]}},
		{{Tag: "abcd", Data: great[:most/2]}, {Tag: "abce", Data: great[:most/2-44]}},
		{{Tag: "abcd", Data: great[:5]}, {Tag: "abce", Data: great[:most-52]}},
		{{Tag: "abcd"}, {Tag: "abce", Data: great[:most-44]}},
	} {
		checkMade(t, l)
		if s, _ := table.Make(l); len(s) != most {
			t.Errorf("Make of %d tables: %d bytes", len(l), len(s))
		}
	}
}

// Each byte at each place of a tag, by Make and by Parse.
func TestTags(t *testing.T) {
	plain := font("", line{"cccc", 28, 0})
	for at := range 4 {
		for b := range 256 {
			tag := with("cccc", at, string([]byte{byte(b)}))
			e := api.OK
			if b < 32 || b > 126 {
				e = api.ErrForm
			}
			if got := checkParse(t, with(plain, 12, tag)); got != e {
				t.Errorf("Parse with the tag %q: %d", tag, got)
			}
			if e != api.OK {
				e = api.ErrArg
			}
			if _, got := table.Make([]api.Table{{Tag: tag}}); got != e {
				t.Errorf("Make with the tag %q: %d", tag, got)
			}
			// Ahead of the same tag, and behind it.
			two := font("", line{tag, 44, 0}, line{"cccc", 44, 0})
			f := checkParse(t, two)
			if _, got := table.Make([]api.Table{{Tag: tag}, {Tag: "cccc"}}); (got == api.OK) != (f == api.OK) || (f == api.OK) != (b >= 32 && b < 'c') {
				t.Errorf("%q ahead of cccc: Make %d, Parse %d", tag, got, f)
			}
			two = font("", line{"cccc", 44, 0}, line{tag, 44, 0})
			f = checkParse(t, two)
			if _, got := table.Make([]api.Table{{Tag: "cccc"}, {Tag: tag}}); (got == api.OK) != (f == api.OK) || (f == api.OK) != (b > 'c' && b <= 126) {
				t.Errorf("%q behind cccc: Make %d, Parse %d", tag, got, f)
			}
		}
	}
}

func TestFind(t *testing.T) {
	var l []api.Table
	for _, t := range [][2]string{{"abcd", "one"}, {"abce", ""}, {"abcd", "two"}, {"x", "short"}, {"", "none"}, {"ABCD", "capitals"}, {"abcd\x00", "long"}} {
		l = append(l, api.Table{Tag: t[0], Data: t[1]})
	}
	for _, c := range []struct {
		l    []api.Table
		tag  string
		want string
		ok   bool
	}{
		{l, "abcd", "one", true},
		{l[1:], "abcd", "two", true},
		{l[3:], "abcd", "", false},
		{l, "abce", "", true},
		{l, "abcf", "", false},
		{l, "abc", "", false},
		{l, "x", "short", true},
		{l, "", "none", true},
		{l, "ABCD", "capitals", true},
		{l, "abcd\x00", "long", true},
		{nil, "abcd", "", false},
		{nil, "", "", false},
		{[]api.Table{}, "abcd", "", false},
	} {
		if got, ok := table.Find(c.l, c.tag); got != c.want || ok != c.ok {
			t.Errorf("Find(%q, %q) = %q, %t; want %q, %t", c.l, c.tag, got, ok, c.want, c.ok)
		}
	}
}

// Fonts that are right, but that Make doesn't make.
func TestParseOthers(t *testing.T) {
	for name, s := range map[string]string{
		"places not rising":             font("abcdefgh", line{"aaaa", 48, 4}, line{"bbbb", 44, 4}),
		"bytes between":                 font("abcdefghijklmnop", line{"aaaa", 44, 3}, line{"bbbb", 52, 5}),
		"bytes behind":                  font("abcdefghijk", line{"aaaa", 28, 2}),
		"none but 0 behind":             font("ab\x01\x02", line{"aaaa", 28, 2}),
		"not as long as a multiple":     font("abcdefg", line{"aaaa", 44, 4}, line{"bbbb", 48, 3}),
		"none at the end":               font("abcd", line{"aaaa", 32, 0}),
		"none at the end, two":          font("abcd", line{"aaaa", 48, 0}, line{"bbbb", 48, 0}),
		"none, behind the directory":    font("", line{"aaaa", 28, 0}),
		"none within another":           font("abcdefghijkl", line{"aaaa", 44, 12}, line{"bbbb", 48, 0}),
		"none within one that follows":  font("abcdefghijkl", line{"aaaa", 48, 0}, line{"bbbb", 44, 12}),
		"none where another one begins": font("abcdefghijkl", line{"aaaa", 44, 12}, line{"bbbb", 44, 0}),
		"none where one begins":         font("abcdefghijkl", line{"aaaa", 44, 0}, line{"bbbb", 44, 12}),
		"one about another's gap":       font("abcdefghijkl", line{"aaaa", 60, 4}, line{"bbbb", 68, 4}, line{"cccc", 64, 4}),
		"most bytes":                    font(mixed(most-28), line{"aaaa", 28, most - 28}),
		"most bytes, few in the table":  font(mixed(most-28), line{"aaaa", 32, 5}),
		"none at the greatest end":      font(mixed(most-28), line{"aaaa", most, 0}),
	} {
		if e := checkParse(t, s); e != api.OK {
			t.Errorf("%s: %d", name, e)
		}
		if e := checkParse(t, "true"+s[4:]); e != api.OK {
			t.Errorf("%s, true: %d", name, e)
		}
	}
}

func TestParseErrors(t *testing.T) {
	one := font("abcdefgh", line{"aaaa", 28, 5})
	two := font("abcdefgh", line{"aaaa", 44, 4}, line{"bbbb", 48, 4})
	made64, _ := table.Make(list(64))
	wrong := "\xff"
	for _, c := range []struct {
		name string
		s    string
		e    api.Errno
	}{
		{"right", one, api.OK},
		{"right, two", two, api.OK},
		{"right, 64", made64, api.OK},

		{"empty", "", api.ErrEnd},
		{"too many bytes", one + mixed(most-len(one)+1), api.ErrLong},
		{"too many bytes, all wrong", strings.Repeat("\xff", most+1), api.ErrLong},
		{"most bytes, all wrong", strings.Repeat("\xff", most), api.ErrForm},
		{"11 bytes", one[:11], api.ErrEnd},
		{"11 bytes, all wrong", strings.Repeat("\xff", 11), api.ErrEnd},
		{"12 bytes, all wrong", strings.Repeat("\xff", 12), api.ErrForm},
		{"12 bytes 0", strings.Repeat("\x00", 12), api.ErrForm},
		{"OTTO", with(one, 0, "OTTO"), api.ErrForm},
		{"True", with(one, 0, "True"), api.ErrForm},
		{"0, 1, 0, 1", with(one, 0, "\x00\x01\x00\x01"), api.ErrForm},
		{"0, 2, 0, 0", with(one, 0, "\x00\x02\x00\x00"), api.ErrForm},
		{"the beginning, ahead of too many", with(made64, 0, "\x00\x02\x00\x00\x00\x41"), api.ErrForm},
		{"n 0", with(one, 4, "\x00\x00\x00\x00\x00\x00\x00\x00"), api.ErrForm},
		{"n 65", with(one, 4, four(65)), api.ErrLong},
		{"n 65, the numbers wrong, no rows", with(one, 4, "\x00\x41")[:12], api.ErrLong},
		{"n 256", with(one, 4, "\x01\x00"), api.ErrLong},
		{"n 257", with(one, 4, "\x01\x01"), api.ErrLong},
		{"n 65535", with(one, 4, "\xff\xff"), api.ErrLong},
		{"the first number", with(one, 6, "\x00\x20"), api.ErrForm},
		{"the first number, its high byte", with(one, 6, wrong), api.ErrForm},
		{"the second number", with(one, 9, "\x01"), api.ErrForm},
		{"the second number, its high byte", with(one, 8, wrong), api.ErrForm},
		{"the third number", with(one, 11, "\x10"), api.ErrForm},
		{"the third number, its high byte", with(one, 10, wrong), api.ErrForm},
		{"a number, ahead of rows that aren't there", with(one, 11, "\x10")[:12], api.ErrForm},
		{"no row", one[:12], api.ErrEnd},
		{"a row less a byte", one[:27], api.ErrEnd},
		{"two rows less a byte, the first one wrong", with(two, 12, wrong)[:43], api.ErrEnd},
		{"63 rows of 64", made64[:12+63*16], api.ErrEnd},

		{"a tag", with(one, 12, "\x1f"), api.ErrForm},
		{"a tag's last byte", with(one, 15, "\x7f"), api.ErrForm},
		{"the same tag", with(two, 28, "aaaa"), api.ErrForm},
		{"tags that fall", with(two, 28, "aaZz"), api.ErrForm},
		{"a place within the directory", font("abcd", line{"aaaa", 24, 4}), api.ErrForm},
		{"the place 0", font("abcd", line{"aaaa", 0, 4}), api.ErrForm},
		{"the place 0, of none", font("abcd", line{"aaaa", 0, 0}), api.ErrForm},
		{"within the directory, in the second row", font("abcd", line{"aaaa", 44, 4}, line{"bbbb", 28, 0}), api.ErrForm},
		{"within the directory, in the first row of two", font("abcd", line{"aaaa", 28, 0}, line{"bbbb", 44, 4}), api.ErrForm},
		{"an odd place", font("abcdefgh", line{"aaaa", 29, 4}), api.ErrForm},
		{"a place of 2 times", font("abcdefgh", line{"aaaa", 30, 4}), api.ErrForm},
		{"an odd place, of none", font("abcdefgh", line{"aaaa", 31, 0}), api.ErrForm},
		{"an odd place, beyond the end", font("abcdefgh", line{"aaaa", 1001, 4}), api.ErrForm},
		{"the greatest place", font("abcdefgh", line{"aaaa", math.MaxUint32, 4}), api.ErrForm},
		{"the greatest place of 4 times", font("abcdefgh", line{"aaaa", math.MaxUint32 - 3, 4}), api.ErrEnd},
		{"the greatest place of 4 times, of none", font("abcdefgh", line{"aaaa", math.MaxUint32 - 3, 0}), api.ErrEnd},
		{"a place of 2^31", font("abcdefgh", line{"aaaa", 1 << 31, 4}), api.ErrEnd},
		{"beyond the end", font("abcdefgh", line{"aaaa", 40, 4}), api.ErrEnd},
		{"none, beyond the end", font("abcdefgh", line{"aaaa", 40, 0}), api.ErrEnd},
		{"none, beyond an end that is no multiple", font("abcdef", line{"aaaa", 36, 0}), api.ErrEnd},
		{"a byte too long", font("abcdefgh", line{"aaaa", 28, 9}), api.ErrEnd},
		{"a byte, at the end", font("abcdefgh", line{"aaaa", 36, 1}), api.ErrEnd},
		{"the greatest length", font("abcdefgh", line{"aaaa", 28, math.MaxUint32}), api.ErrEnd},
		{"lengths that go round", font("abcdefgh", line{"aaaa", 32, math.MaxUint32 - 31}), api.ErrEnd},
		{"lengths that go round to the beginning", font("abcdefgh", line{"aaaa", 28, math.MaxUint32 - 27}), api.ErrEnd},
		{"a length of 2^31", font("abcdefgh", line{"aaaa", 28, 1 << 31}), api.ErrEnd},
		{"the same bytes", font("abcdefgh", line{"aaaa", 44, 4}, line{"bbbb", 44, 4}), api.ErrForm},
		{"a byte of another one", font("abcdefgh", line{"aaaa", 44, 5}, line{"bbbb", 48, 4}), api.ErrForm},
		{"a byte of another one, at its end", font("abcdefgh", line{"aaaa", 48, 4}, line{"bbbb", 44, 5}), api.ErrForm},
		{"within another one", font("abcdefghijkl", line{"aaaa", 44, 12}, line{"bbbb", 48, 1}), api.ErrForm},
		{"about another one", font("abcdefghijkl", line{"aaaa", 48, 1}, line{"bbbb", 44, 12}), api.ErrForm},
		{"the first one's, with one between", font("abcdefghijkl", line{"aaaa", 60, 4}, line{"bbbb", 64, 4}, line{"cccc", 60, 1}), api.ErrForm},
		{"about one of none", font("abcdefghijkl", line{"aaaa", 48, 0}, line{"bbbb", 44, 8}, line{"cccc", 48, 1}), api.ErrForm},
		{"a sum", with(one, 19, wrong), api.ErrSum},
		{"a sum's first byte", with(one, 16, wrong), api.ErrSum},
		{"the second sum", with(two, 35, wrong), api.ErrSum},
		{"a byte of a table", with(one, 28, wrong), api.ErrSum},
		{"the last byte of a table", with(one, 32, wrong), api.ErrSum},
		{"the byte behind a table", with(one, 33, wrong), api.OK},
		{"a sum of none", with(font("", line{"aaaa", 28, 0}), 19, "\x01"), api.ErrSum},

		// Of a row with several faults the first one in the chapter's order, and of rows the first one.
		{"the tag, ahead of the end", font("", line{"aa\x00a", 40, 4}), api.ErrForm},
		{"the end, ahead of a byte of another one", font("abcdefgh", line{"aaaa", 44, 4}, line{"bbbb", 44, 9}), api.ErrEnd},
		{"a byte of another one, ahead of the sum", with(font("abcdefgh", line{"aaaa", 44, 4}, line{"bbbb", 44, 4}), 35, wrong), api.ErrForm},
		{"the end, ahead of the next tag", font("", line{"bbbb", 60, 4}, line{"aaaa", 44, 0}), api.ErrEnd},
		{"the sum, ahead of the next tag", with(with(two, 28, "aaaa"), 19, wrong), api.ErrSum},
		{"the sum, ahead of the next end", with(font("abcdefgh", line{"aaaa", 44, 4}, line{"bbbb", 48, 5}), 19, wrong), api.ErrSum},
		{"the sum, ahead of a byte of the next one", with(font("abcdefgh", line{"aaaa", 44, 4}, line{"bbbb", 44, 4}), 19, wrong), api.ErrSum},
		{"the next tag, ahead of its sum", with(with(two, 28, "aaaa"), 35, wrong), api.ErrForm},
	} {
		if _, e := table.Parse(c.s); e != c.e {
			t.Errorf("%s: %d; want %d", c.name, e, c.e)
		}
		checkParse(t, c.s)
	}
}

// Each byte of fonts turned into each other one, and each beginning of them.
func TestParseChanged(t *testing.T) {
	small, _ := table.Make(list(3))
	for _, s := range []string{
		small,
		font("abcdefghijklmnopqrs", line{"aaaa", 52, 7}, line{"head", 44, 5}),
		font("abcdefghijklmnopqrstuvwxyz", line{"head", 28, 21}),
		font("\x00\x00\x00\x00abcd", line{"    ", 64, 4}, line{"!!!!", 60, 0}, line{"~~~~", 60, 4}),
	} {
		seen := map[api.Errno]bool{}
		for i := range len(s) {
			seen[checkParse(t, s[:i])] = true
			for b := range 256 {
				seen[checkParse(t, with(s, i, string([]byte{byte(b)})))] = true
			}
		}
		for _, e := range []api.Errno{api.OK, api.ErrEnd, api.ErrForm, api.ErrLong, api.ErrSum} {
			if !seen[e] {
				t.Errorf("of %q no change gives %d", s, e)
			}
		}
	}
}

// Rows of all kinds, with right sums, so that tables lie on each other, and beyond the end, in all ways.
func TestParseAny(t *testing.T) {
	from := rand.New(rand.NewSource(9))
	seen := map[api.Errno]int{}
	for range 200000 {
		n := 1 + from.Intn(4)
		behind := mixed(40)[:from.Intn(40)]
		var lines []line
		for i := range n {
			tag := []string{"aaaa", "bbbb", "head", "loca"}[i]
			if from.Intn(30) == 0 {
				tag = "aaab"
			}
			at := uint32(12+16*n) + uint32(from.Intn(len(behind)/4+2))*4 - uint32(from.Intn(20)/19*4)
			lines = append(lines, line{tag, at + uint32(from.Intn(30)/29), uint32(from.Intn(9) * from.Intn(2))})
		}
		s := font(behind, lines...)
		if from.Intn(20) == 0 {
			s = with(s, 16+16*from.Intn(n), long(from.Uint32()))
		}
		seen[checkParse(t, s)]++
	}
	for _, e := range []api.Errno{api.OK, api.ErrEnd, api.ErrForm, api.ErrSum} {
		if seen[e] < 1000 {
			t.Errorf("%d is answered %d times", e, seen[e])
		}
	}
}

// The bytes 8 to 11 of head, and of no other table, count for nothing, however many of them are there.
func TestHead(t *testing.T) {
	for n := range 20 {
		for _, tag := range []string{"head", "Head", "heae", "hea ", "hhea"} {
			s := font(mixed(20), line{tag, 28, uint32(n)})
			for i := range 20 {
				e := api.ErrSum
				if i >= n || tag == "head" && i >= 8 && i <= 11 {
					e = api.OK
				}
				if got := checkParse(t, with(s, 28+i, string([]byte{s[28+i] ^ 0x40}))); got != e {
					t.Errorf("%s of %d bytes, byte %d changed: %d", tag, n, i, got)
				}
			}
		}
	}
	// They are told, and made, as they are.
	data := strings.Repeat("\x01", 16)
	l := []api.Table{{Tag: "head", Data: data}}
	s, _ := table.Make(l)
	if s[16:20] != "\x03\x03\x03\x03" || s[28:] != data {
		t.Errorf("Make of head: %q", s)
	}
	if got, e := table.Parse(s); e != api.OK || !slices.Equal(got, l) {
		t.Errorf("Parse of head: %q, %d", got, e)
	}
}

// within tells whether a text lies in the memory of another one.
func within(piece, s string) bool {
	at, from := uintptr(unsafe.Pointer(unsafe.StringData(piece))), uintptr(unsafe.Pointer(unsafe.StringData(s)))
	return len(piece) > 0 && at >= from && at < from+uintptr(len(s))
}

// What is answered is in memory of its own, and what is handed in is left as it is.
func TestOwn(t *testing.T) {
	l := list(7)
	kept := slices.Clone(l)
	s, _ := table.Make(l)
	got, _ := table.Parse(s)
	for i, g := range got {
		if within(g.Tag, s) || within(g.Data, s) {
			t.Errorf("table %d lies in the font", i)
		}
		if found, _ := table.Find(l, g.Tag); within(found, l[i].Data) {
			t.Errorf("what is found of %s lies in the list", g.Tag)
		}
	}
	again, _ := table.Parse(s)
	got[0].Tag = "else"
	if again[0].Tag != l[0].Tag || !slices.Equal(l, kept) {
		t.Errorf("%q and %q", again, l)
	}
}
