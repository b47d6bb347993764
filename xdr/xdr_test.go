package xdr

import (
	"bytes"
	"math"
	"math/rand"
	"testing"

	"truchman/api"
)

// P1.1: what is laid stands behind b, byte by byte.
func TestLaid(t *testing.T) {
	for _, c := range []struct {
		name      string
		got, want []byte
	}{
		{"U32", U32(nil, 0x01020304), []byte{1, 2, 3, 4}},
		{"U32 behind", U32([]byte{9, 8}, 0xff000001), []byte{9, 8, 255, 0, 0, 1}},
		{"U32 greatest", U32(nil, math.MaxUint32), []byte{255, 255, 255, 255}},
		{"U64", U64([]byte{7}, 0x0102030405060708), []byte{7, 1, 2, 3, 4, 5, 6, 7, 8}},
		{"U64 greatest", U64(nil, math.MaxUint64), bytes.Repeat([]byte{255}, 8)},
		{"Text of none", Text([]byte{5}, nil), []byte{5, 0, 0, 0, 0}},
		{"Text of 1", Text(nil, []byte("a")), []byte{0, 0, 0, 1, 97, 0, 0, 0}},
		{"Text of 2", Text(nil, []byte("ab")), []byte{0, 0, 0, 2, 97, 98, 0, 0}},
		{"Text of 3", Text(nil, []byte("abc")), []byte{0, 0, 0, 3, 97, 98, 99, 0}},
		{"Text of 4", Text(nil, []byte("abcd")), []byte{0, 0, 0, 4, 97, 98, 99, 100}},
		{"Text of 5", Text(nil, []byte("abcde")), []byte{0, 0, 0, 5, 97, 98, 99, 100, 101, 0, 0, 0}},
		{"Bool yes", Bool([]byte{3}, true), []byte{3, 0, 0, 0, 1}},
		{"Bool no", Bool(nil, false), []byte{0, 0, 0, 0}},
	} {
		if !bytes.Equal(c.got, c.want) {
			t.Errorf("%s: %v, not %v", c.name, c.got, c.want)
		}
	}
}

// R4: the spare room of what is handed in stays, and what is answered is new memory.
func TestLaidInNewMemory(t *testing.T) {
	room := bytes.Repeat([]byte{1}, 64)
	b := room[:3]
	for _, got := range [][]byte{U32(b, 0), U64(b, 0), Text(b, []byte("xy")), Text(b, nil), Bool(b, false)} {
		got[0] = 77
	}
	if !bytes.Equal(room, bytes.Repeat([]byte{1}, 64)) {
		t.Error("what was handed in is changed", room)
	}
}

// P1.2: numbers are read one behind the other, and a reader keeps what b was.
func TestReadNumbers(t *testing.T) {
	b := []byte{1, 2, 3, 4, 0, 0, 0, 1, 0, 0, 0, 2, 0, 0, 0, 1, 0, 0, 0, 0}
	r := Read(b)
	for i := range b {
		b[i] = 99
	}
	if n := r.U32(); n != 0x01020304 || r.Left() != 16 {
		t.Error(n, r.Left())
	}
	if n := r.U64(); n != 1<<32+2 || r.Left() != 8 {
		t.Error(n, r.Left())
	}
	if !r.Bool() || r.Left() != 4 || r.Errno() != api.OK {
		t.Error("no yes", r.Left(), r.Errno())
	}
	if r.Bool() || r.Left() != 0 || r.Errno() != api.OK || r.End() != api.OK {
		t.Error("no no", r.Left(), r.Errno())
	}
}

// P1.2: a text is read whole, or its first error is told.
func TestReadText(t *testing.T) {
	for _, c := range []struct {
		b    string
		most int
		want string
		e    api.Errno
		left int
	}{
		{"\x00\x00\x00\x00", 0, "", api.OK, 0},
		{"\x00\x00\x00\x02ab\x00\x00z", 2, "ab", api.OK, 1},
		{"\x00\x00\x00\x04abcdz", 9, "abcd", api.OK, 1},
		{"\x00\x00\x00\x03abc\x00", math.MaxInt, "abc", api.OK, 0},
		{"", 9, "", api.ErrShort, 0},
		{"\x00\x00\x00", -1, "", api.ErrShort, 0},
		{"\x00\x00\x00\x00", -1, "", api.ErrRange, 0},
		{"\x00\x00\x00\x01a\x00\x00\x00", math.MinInt, "", api.ErrRange, 0},
		{"\x00\x00\x00\x03", 2, "", api.ErrRange, 0},
		{"\x00\x00\x00\x03ab", 3, "", api.ErrShort, 0},
		{"\x00\x00\x00\x03abc", 3, "", api.ErrShort, 0},
		{"\x00\x00\x00\x01a\x01\x00", 3, "", api.ErrShort, 0},
		{"\x00\x00\x00\x01a\x01\x00\x00", 3, "", api.ErrForm, 0},
		{"\x00\x00\x00\x01a\x00\x01\x00", 3, "", api.ErrForm, 0},
		{"\x00\x00\x00\x01a\x00\x00\x01", 3, "", api.ErrForm, 0},
		{"\xff\xff\xff\xff", math.MaxUint32 - 1, "", api.ErrRange, 0},
		{"\xff\xff\xff\xff", math.MaxUint32, "", api.ErrShort, 0},
		{"\xff\xff\xff\xff", math.MaxInt, "", api.ErrShort, 0},
	} {
		r := Read([]byte(c.b))
		if s := r.Text(c.most); string(s) != c.want || r.Errno() != c.e || r.Left() != c.left {
			t.Errorf("%q %d: %q, %d, %d left", c.b, c.most, s, r.Errno(), r.Left())
		}
	}
}

// R4: a text that is told is new memory.
func TestReadTextIsNew(t *testing.T) {
	r := Read([]byte("\x00\x00\x00\x01a\x00\x00\x00\x00\x00\x00\x01b\x00\x00\x00"))
	a := r.Text(4)
	a = append(a, 9, 9, 9, 9, 9, 9, 9, 9, 9, 9, 9, 9)
	if s := r.Text(4); string(s) != "b" || a[0] != 'a' {
		t.Error(s, r.Errno())
	}
}

// P1.2: too few bytes for a number are ErrShort, another number than 0 and 1 is no yes or no.
func TestReadErrors(t *testing.T) {
	for n := range 8 {
		r := Read(bytes.Repeat([]byte{1}, n))
		if r.U64() != 0 || r.Errno() != api.ErrShort || r.Left() != 0 {
			t.Error("U64 of", n, r.Errno(), r.Left())
		}
	}
	for n := range 4 {
		r, s := Read(bytes.Repeat([]byte{1}, n)), Read(bytes.Repeat([]byte{1}, n))
		if r.U32() != 0 || r.Errno() != api.ErrShort || s.Bool() || s.Errno() != api.ErrShort {
			t.Error("U32 and Bool of", n, r.Errno(), s.Errno())
		}
	}
	for _, b := range []string{"\x00\x00\x00\x02", "\x01\x00\x00\x01", "\x80\x00\x00\x00", "\xff\xff\xff\xff"} {
		r := Read([]byte(b + "more"))
		if r.Bool() || r.Errno() != api.ErrForm || r.Left() != 0 || r.End() != api.ErrForm {
			t.Errorf("%q: %d", b, r.Errno())
		}
	}
}

// P1.3: behind an error all is zero, and the first error stays.
func TestBehindAnError(t *testing.T) {
	good := "\x00\x00\x00\x01\x00\x00\x00\x01\x00\x00\x00\x01a\x00\x00\x00"
	for _, c := range []struct {
		b    string
		fail func(r *Reader)
		e    api.Errno
	}{
		{"\x00\x00\x00\x02" + good, func(r *Reader) { r.Bool() }, api.ErrForm},
		{"\x00\x00\x00\x02" + good, func(r *Reader) { r.Text(1) }, api.ErrRange},
		{"\x00\x00\x01\x00" + good, func(r *Reader) { r.Text(256) }, api.ErrShort},
	} {
		r := Read([]byte(c.b))
		c.fail(r)
		if r.Errno() != c.e || r.Left() != 0 || r.End() != c.e {
			t.Error("at first", r.Errno(), c.e)
		}
		if r.U32() != 0 || r.U64() != 0 || r.Text(9) != nil || r.Text(-1) != nil || r.Bool() || r.Left() != 0 {
			t.Error("something is read behind", c.e)
		}
		if r.Errno() != c.e || r.End() != c.e {
			t.Error("then", r.Errno(), c.e)
		}
	}
}

// P1.3: End asks for bytes that are left, and changes nothing.
func TestEnd(t *testing.T) {
	r := Read([]byte{0, 0, 0, 7, 0, 0, 0, 8})
	for range 2 {
		if r.End() != api.ErrForm || r.Errno() != api.OK || r.Left() != 8 {
			t.Error(r.End(), r.Errno(), r.Left())
		}
	}
	if r.U32() != 7 || r.End() != api.ErrForm || r.U32() != 8 || r.End() != api.OK {
		t.Error("End changes something")
	}
	r = Read([]byte{0, 0, 0, 0, 0, 0, 0, 3, 1})
	if r.U64() != 3 || r.End() != api.ErrForm || r.Left() != 1 {
		t.Error("a byte is left", r.End(), r.Left())
	}
	r = Read([]byte{0, 0, 0, 0, 0, 0, 0, 3})
	if r.U64() != 3 || r.End() != api.OK {
		t.Error("nothing is left", r.End())
	}
	if r := Read(nil); r.End() != api.OK || r.Left() != 0 || r.Errno() != api.OK {
		t.Error("nothing to read is an error")
	}
}

// P1.4: what is laid is read as it was, and no shorter bytes are.
func TestLaidAndRead(t *testing.T) {
	dice := rand.New(rand.NewSource(1))
	for range 300 {
		n, m, s, is := dice.Uint32(), dice.Uint64(), make([]byte, dice.Intn(20)), dice.Intn(2) == 1
		dice.Read(s)
		b := Bool(Text(U64(U32(nil, n), m), s), is)
		r := Read(b)
		if r.U32() != n || r.U64() != m || !bytes.Equal(r.Text(20), s) || r.Bool() != is || r.End() != api.OK {
			t.Fatal("other than it was", n, m, s, is, r.Errno())
		}
		for k := range len(b) {
			r := Read(b[:k])
			r.U32()
			r.U64()
			r.Text(20)
			r.Bool()
			if r.End() != api.ErrShort {
				t.Fatal("cut to", k, r.End())
			}
		}
	}
}
