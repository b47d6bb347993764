package demark

import (
	"bytes"
	"math"
	"math/rand"
	"testing"

	"truchman/api"
)

func deframer(t *testing.T, most, frags int) *Deframer {
	t.Helper()
	d, e := New(most, frags)
	if e != api.OK || d == nil {
		t.Fatal(most, frags, e)
	}
	return d
}

func sameLists(a, b [][]byte) bool {
	if len(a) != len(b) {
		return false
	}
	for i := range a {
		if !bytes.Equal(a[i], b[i]) {
			return false
		}
	}
	return true
}

func list(l ...string) [][]byte {
	var all [][]byte
	for _, s := range l {
		all = append(all, []byte(s))
	}
	return all
}

// P4.1: the limits that may be.
func TestNew(t *testing.T) {
	for _, c := range []struct {
		most, frags int
		e           api.Errno
	}{
		{0, 1, api.OK}, {4096, 64, api.OK}, {4096, 1, api.OK}, {0, 64, api.OK},
		{-1, 1, api.ErrArg}, {4097, 1, api.ErrArg}, {0, 0, api.ErrArg}, {0, 65, api.ErrArg},
		{math.MinInt, 1, api.ErrArg}, {0, math.MinInt, api.ErrArg}, {math.MaxInt, math.MaxInt, api.ErrArg},
	} {
		if d, e := New(c.most, c.frags); e != c.e || (d == nil) != (c.e != api.OK) {
			t.Error(c.most, c.frags, e)
		}
	}
	d := deframer(t, 0, 1)
	if d.Errno() != api.OK || d.Held() != 0 || !d.Clean() || len(d.Feed(nil)) != 0 {
		t.Error("a new one was given something")
	}
}

// P4.2: records, as soon as they are there, with the limits and the errors.
func TestFeed(t *testing.T) {
	for _, c := range []struct {
		name        string
		most, frags int
		b           string
		want        [][]byte
		e           api.Errno
		held        int
		clean       bool
	}{
		{"nothing", 9, 9, "", nil, api.OK, 0, true},
		{"one of two fragments", 9, 9, "\x00\x00\x00\x01a\x80\x00\x00\x01b", list("ab"), api.OK, 0, true},
		{"one without bytes", 0, 1, "\x80\x00\x00\x00", list(""), api.OK, 0, true},
		{"many without bytes", 0, 1, "\x80\x00\x00\x00\x80\x00\x00\x00\x80\x00\x00\x00", list("", "", ""), api.OK, 0, true},
		{"two", 2, 1, "\x80\x00\x00\x02ab\x80\x00\x00\x01c", list("ab", "c"), api.OK, 0, true},
		{"half a number", 9, 9, "\x80\x00\x00", nil, api.OK, 3, false},
		{"half a number behind one", 9, 9, "\x80\x00\x00\x01a\x00", list("a"), api.OK, 1, false},
		{"half a fragment", 9, 9, "\x80\x00\x00\x03ab", nil, api.OK, 2, false},
		{"a number alone", 9, 9, "\x80\x00\x00\x03", nil, api.OK, 0, false},
		{"a fragment that is not the last one", 9, 9, "\x00\x00\x00\x02ab", nil, api.OK, 2, false},
		{"one without bytes that is not the last one", 9, 9, "\x00\x00\x00\x00", nil, api.OK, 0, false},
		{"bytes and half a number", 9, 9, "\x00\x00\x00\x02ab\x80\x00", nil, api.OK, 4, false},
		{"fragments without bytes", 1, 3, "\x00\x00\x00\x00\x00\x00\x00\x00\x80\x00\x00\x01a", list("a"), api.OK, 0, true},
		{"as many fragments as may be", 9, 2, "\x00\x00\x00\x01a\x80\x00\x00\x01b", list("ab"), api.OK, 0, true},
		{"one fragment more", 9, 2, "\x00\x00\x00\x01a\x00\x00\x00\x01b\x80\x00\x00\x00", nil, api.ErrFull, 0, false},
		{"one fragment more, not all of its number", 9, 2, "\x00\x00\x00\x01a\x00\x00\x00\x01b\x80\x00\x00", nil, api.OK, 5, false},
		{"fragments of the record ahead do not count", 9, 2, "\x00\x00\x00\x01a\x80\x00\x00\x01b\x00\x00\x00\x01c\x80\x00\x00\x01d", list("ab", "cd"), api.OK, 0, true},
		{"more bytes than may be", 2, 9, "\x80\x00\x00\x03", nil, api.ErrRange, 0, false},
		{"more bytes in two fragments", 2, 9, "\x00\x00\x00\x02ab\x80\x00\x00\x01", nil, api.ErrRange, 0, false},
		{"as many bytes in two fragments", 2, 9, "\x00\x00\x00\x02ab\x80\x00\x00\x00", list("ab"), api.OK, 0, true},
		{"both: one fragment more is told first", 2, 1, "\x00\x00\x00\x02ab\x80\x00\x00\x01", nil, api.ErrFull, 0, false},
		{"greatest number", 4096, 64, "\xff\xff\xff\xff", nil, api.ErrRange, 0, false},
		{"greatest number behind bytes", 4096, 64, "\x00\x00\x00\x01a\x7f\xff\xff\xff", nil, api.ErrRange, 0, false},
		{"a record ahead of an error", 2, 9, "\x80\x00\x00\x02ab\x80\x00\x00\x03abc\x80\x00\x00\x01z", list("ab"), api.ErrRange, 0, false},
	} {
		d := deframer(t, c.most, c.frags)
		if got := d.Feed([]byte(c.b)); !sameLists(got, c.want) || d.Errno() != c.e || d.Held() != c.held || d.Clean() != c.clean {
			t.Errorf("%s: %q, errno %d, held %d, clean %v", c.name, got, d.Errno(), d.Held(), d.Clean())
		}
	}
}

// P4.2: behind an error nothing is told any more, and nothing is kept.
func TestBehindAnError(t *testing.T) {
	d := deframer(t, 1, 1)
	d.Feed([]byte("\x80\x00\x00\x02"))
	for range 3 {
		if got := d.Feed([]byte("ab\x80\x00\x00\x01a\x80\x00\x00\x00\x00")); len(got) != 0 || d.Errno() != api.ErrRange || d.Held() != 0 || d.Clean() {
			t.Error(got, d.Errno(), d.Held(), d.Clean())
		}
	}
}

// P4.2: what was told is not told again.
func TestToldOnce(t *testing.T) {
	d := deframer(t, 9, 9)
	if got := d.Feed([]byte("\x80\x00\x00\x01a\x80\x00\x00\x01")); !sameLists(got, list("a")) {
		t.Error(got)
	}
	if got := d.Feed(nil); len(got) != 0 {
		t.Error(got)
	}
	if got := d.Feed([]byte("b")); !sameLists(got, list("b")) {
		t.Error(got)
	}
	if got := d.Feed([]byte("\x80\x00\x00\x00")); !sameLists(got, list("")) || !d.Clean() {
		t.Error(got)
	}
}

// R4: what is given is not kept, and what is told is new memory.
func TestNewMemory(t *testing.T) {
	d := deframer(t, 9, 9)
	piece := []byte("\x80\x00\x00\x02a")
	d.Feed(piece)
	for i := range piece {
		piece[i] = 'z'
	}
	got := d.Feed([]byte("b\x80\x00\x00\x02cd\x80\x00\x00\x02e"))
	_ = append(got[0], 'y', 'y', 'y')
	got[1][0] = 'x'
	if more := d.Feed([]byte("f")); !sameLists(more, list("ef")) || string(got[0]) != "ab" {
		t.Error(got, more)
	}
}

// P4.3, P4.4: however bytes are cut, the same records and the same error; what is kept is what is not there yet.
func TestPieces(t *testing.T) {
	dice := rand.New(rand.NewSource(4))
	for range 500 {
		var all []byte
		for range dice.Intn(9) {
			n := dice.Intn(6)
			all = append(all, byte(dice.Intn(2)*128), 0, 0, byte(n))
			all = append(all, make([]byte, n)...)
		}
		most, frags := dice.Intn(15), 1+dice.Intn(5)
		whole := deframer(t, most, frags)
		want := whole.Feed(all)
		d := deframer(t, most, frags)
		var got [][]byte
		for rest := all; len(rest) > 0; {
			n := dice.Intn(min(7, len(rest)) + 1)
			got = append(got, d.Feed(rest[:n])...)
			rest = rest[n:]
			if d.Held() > most+3 {
				t.Fatal("too many bytes are kept", d.Held(), most)
			}
		}
		if !sameLists(got, want) || d.Errno() != whole.Errno() || d.Held() != whole.Held() || d.Clean() != whole.Clean() {
			t.Fatal("other by pieces", all, got, want, d.Errno(), whole.Errno())
		}
	}
}
