package little

import (
	"bytes"
	"math"
	"math/rand"
	"testing"

	"truchman/api"
)

// P2.1: what is laid stands behind b, byte by byte.
func TestLaid(t *testing.T) {
	long := bytes.Repeat([]byte("x"), 65535)
	for _, c := range []struct {
		name      string
		got, want []byte
	}{
		{"U8", U8([]byte{9}, 200), []byte{9, 200}},
		{"U16", U16([]byte{9}, 0x0102), []byte{9, 2, 1}},
		{"U32", U32([]byte{9}, 0x01020304), []byte{9, 4, 3, 2, 1}},
		{"U64", U64([]byte{9}, 0x0102030405060708), []byte{9, 8, 7, 6, 5, 4, 3, 2, 1}},
		{"U8 greatest", U8(nil, math.MaxUint8), []byte{255}},
		{"U16 greatest", U16(nil, math.MaxUint16), []byte{255, 255}},
		{"U32 greatest", U32(nil, math.MaxUint32), []byte{255, 255, 255, 255}},
		{"U64 greatest", U64(nil, math.MaxUint64), bytes.Repeat([]byte{255}, 8)},
		{"Text of none", Text([]byte{1}, ""), []byte{1, 0, 0}},
		{"Text", Text([]byte{1}, "ab"), []byte{1, 2, 0, 97, 98}},
		{"Text of 300", Text(nil, string(long[:300])), append([]byte{44, 1}, long[:300]...)},
		{"Text of 65535", Text(nil, string(long)), append([]byte{255, 255}, long...)},
		{"Data of none", Data([]byte{1}, nil), []byte{1, 0, 0, 0, 0}},
		{"Data", Data([]byte{1}, []byte("ab")), []byte{1, 2, 0, 0, 0, 97, 98}},
		{"Data of 65536", Data(nil, append(long, 'x')), append([]byte{0, 0, 1, 0}, append(long, 'x')...)},
		{"Pack of none", Pack(100, 65535, nil), []byte{7, 0, 0, 0, 100, 255, 255}},
		{"Pack", Pack(255, 258, []byte{5, 6}), []byte{9, 0, 0, 0, 255, 2, 1, 5, 6}},
		{"Pack of 300", Pack(1, 0, long[:300]), append([]byte{51, 1, 0, 0, 1, 0, 0}, long[:300]...)},
	} {
		if !bytes.Equal(c.got, c.want) {
			t.Errorf("%s: %v, not %v", c.name, c.got, c.want)
		}
	}
}

// R4: the spare room of what is handed in stays, and what is answered is new memory.
func TestLaidInNewMemory(t *testing.T) {
	room := bytes.Repeat([]byte{1}, 64)
	b := room[:3]
	for _, got := range [][]byte{U8(b, 0), U16(b, 0), U32(b, 0), U64(b, 0), Text(b, ""), Text(b, "xy"), Data(b, nil), Data(b, []byte("xy")), Pack(3, 4, b)} {
		for i := range got {
			got[i] = 77
		}
	}
	if !bytes.Equal(room, bytes.Repeat([]byte{1}, 64)) {
		t.Error("what was handed in is changed", room)
	}
}

// P2.2: whole messages, and what is behind them.
func TestSplit(t *testing.T) {
	a, b := Pack(1, 2, nil), Pack(3, 4, []byte("body"))
	both := append(append([]byte(nil), a...), b...)
	for _, c := range []struct {
		name  string
		b     []byte
		msize int
		whole [][]byte
		rest  []byte
		e     api.Errno
	}{
		{"nothing", nil, 100, nil, nil, api.OK},
		{"three bytes", []byte{1, 0, 0}, 100, nil, []byte{1, 0, 0}, api.OK},
		{"one", a, 7, [][]byte{a}, nil, api.OK},
		{"two", both, 11, [][]byte{a, b}, nil, api.OK},
		{"one and a half", both[:17], 11, [][]byte{a}, b[:10], api.OK},
		{"one and a size", both[:11], 11, [][]byte{a}, b[:4], api.OK},
		{"too great", both, 10, [][]byte{a}, nil, api.ErrRange},
		{"too great, its size alone", both[:11], 10, [][]byte{a}, nil, api.ErrRange},
		{"too great, not all of its size", both[:10], 10, [][]byte{a}, b[:3], api.OK},
		{"size 6", []byte{6, 0, 0, 0}, 100, nil, nil, api.ErrForm},
		{"size 6 behind one", append(append([]byte(nil), a...), 6, 0, 0, 0, 1), 100, [][]byte{a}, nil, api.ErrForm},
		{"size 0", []byte{0, 0, 0, 0, 0, 0, 0, 0}, 100, nil, nil, api.ErrForm},
		{"size 6, msize 5", []byte{6, 0, 0, 0}, 5, nil, nil, api.ErrForm},
		{"size 7, msize 6", a, 6, nil, nil, api.ErrRange},
		{"msize below 0", a, -1, nil, nil, api.ErrRange},
		{"greatest size", []byte{255, 255, 255, 255}, math.MaxUint32 - 1, nil, nil, api.ErrRange},
		{"greatest size that may be", []byte{255, 255, 255, 255}, math.MaxInt, nil, []byte{255, 255, 255, 255}, api.OK},
	} {
		whole, rest, e := Split(c.b, c.msize)
		if !sameLists(whole, c.whole) || !bytes.Equal(rest, c.rest) || e != c.e {
			t.Errorf("%s: %v %v %d", c.name, whole, rest, e)
		}
	}
}

func sameLists(a, b [][]byte) bool {
	if len(a) != len(b) {
		return false
	}
	for i := range a {
		if !bytes.Equal(a[i], b[i]) {
			return false
		}
	}
	return true
}

// R4: what is split is new memory, message by message.
func TestSplitIsNew(t *testing.T) {
	b := append(append(Pack(1, 2, nil), Pack(3, 4, nil)...), 9, 9)
	was := append([]byte(nil), b...)
	whole, rest, _ := Split(b, 100)
	_ = append(whole[0], 55, 55, 55)
	_ = append(whole[1], 55, 55, 55)
	whole[0][0], whole[1][1], rest[0] = 66, 66, 66
	if !bytes.Equal(b, was) || whole[1][0] != 7 {
		t.Error("memory is shared", b, whole)
	}
}

// P2.3: numbers, texts and data are read one behind the other, and a reader keeps what b was.
func TestRead(t *testing.T) {
	b := Data(Text(U64(U32(U16(U8(nil, 250), 0x0102), 0x01020304), 0x0102030405060708), "ab"), []byte("cde"))
	r := Read(b)
	for i := range b {
		b[i] = 99
	}
	if r.U8() != 250 || r.U16() != 0x0102 || r.U32() != 0x01020304 || r.U64() != 0x0102030405060708 || r.Text() != "ab" {
		t.Error("other than it was", r.Errno())
	}
	if r.End() != api.ErrForm || r.End() != api.ErrForm || r.Errno() != api.OK {
		t.Error("End changes something", r.End(), r.Errno())
	}
	if r := Read([]byte{1}); r.End() != api.ErrForm || r.U8() != 1 || r.End() != api.OK {
		t.Error("a byte that is left", r.End())
	}
	if string(r.Data(3)) != "cde" || r.Errno() != api.OK || r.End() != api.OK {
		t.Error("data", r.Errno())
	}
}

// P2.3: the first error of each kind of thing, and nothing behind it.
func TestReadErrors(t *testing.T) {
	u8, u16 := func(r *Reader) bool { return r.U8() == 0 }, func(r *Reader) bool { return r.U16() == 0 }
	u32, u64 := func(r *Reader) bool { return r.U32() == 0 }, func(r *Reader) bool { return r.U64() == 0 }
	text := func(r *Reader) bool { return r.Text() == "" }
	data := func(most int) func(r *Reader) bool {
		return func(r *Reader) bool { return r.Data(most) == nil }
	}
	for _, c := range []struct {
		name string
		b    []byte
		read func(r *Reader) bool
		e    api.Errno
	}{
		{"U8", nil, u8, api.ErrShort},
		{"U16", []byte{1}, u16, api.ErrShort},
		{"U32", []byte{1, 2, 3}, u32, api.ErrShort},
		{"U64", []byte{1, 2, 3, 4, 5, 6, 7}, u64, api.ErrShort},
		{"text, half a length", []byte{1}, text, api.ErrShort},
		{"text, too short", []byte{3, 0, 97, 98}, text, api.ErrShort},
		{"data, half a length", []byte{1, 0, 0}, data(-1), api.ErrShort},
		{"data, too short", []byte{3, 0, 0, 0, 97, 98}, data(3), api.ErrShort},
		{"data, too many and too short", []byte{3, 0, 0, 0, 97, 98}, data(2), api.ErrRange},
		{"data, too many", []byte{3, 0, 0, 0, 97, 98, 99, 1, 2, 3, 4, 5, 6, 7, 8}, data(2), api.ErrRange},
		{"data, none but most below 0", []byte{0, 0, 0, 0, 1, 2, 3, 4, 5, 6, 7, 8}, data(-1), api.ErrRange},
		{"data, greatest length", []byte{255, 255, 255, 255}, data(math.MaxUint32 - 1), api.ErrRange},
		{"data, greatest length that may be", []byte{255, 255, 255, 255}, data(math.MaxInt), api.ErrShort},
	} {
		r := Read(c.b)
		if !c.read(r) || r.Errno() != c.e || r.End() != c.e {
			t.Errorf("%s: %d", c.name, r.Errno())
		}
		if !u8(r) || !u16(r) || !u32(r) || !u64(r) || !text(r) || !data(9)(r) || !data(-1)(r) || r.Errno() != c.e || r.End() != c.e {
			t.Errorf("%s: then %d", c.name, r.Errno())
		}
	}
	r := Read([]byte{0, 0, 0, 0, 0, 0})
	if r.Text() != "" || r.Data(0) != nil || r.End() != api.OK {
		t.Error("things without bytes are errors", r.Errno())
	}
}

// R4: data that are told are new memory.
func TestReadDataIsNew(t *testing.T) {
	r := Read(Data(Data(nil, []byte("a")), []byte("b")))
	_ = append(r.Data(9), 9, 9, 9, 9, 9, 9, 9)
	if s := r.Data(9); string(s) != "b" {
		t.Error(s, r.Errno())
	}
}

// P2.4: however bytes are cut, the same is split of them, with the same error.
func TestSplitOfPieces(t *testing.T) {
	dice := rand.New(rand.NewSource(2))
	for round := range 300 {
		var all []byte
		for range dice.Intn(6) {
			all = append(all, Pack(uint8(dice.Intn(256)), uint16(dice.Intn(65536)), make([]byte, dice.Intn(30)))...)
		}
		switch round % 3 {
		case 1:
			all = append(all, byte(dice.Intn(7)), 0, 0, 0, 1, 2, 3, 4, 5)
		case 2:
			all = append(all, 41, 0, 0, 0, 1, 2, 3, 4, 5)
		}
		want, left, e := Split(all, 40)
		var got [][]byte
		var kept []byte
		var f api.Errno
		for rest := all; len(rest) > 0 && f == api.OK; {
			n := 1 + dice.Intn(len(rest))
			var whole [][]byte
			whole, kept, f = Split(append(kept, rest[:n]...), 40)
			got, rest = append(got, whole...), rest[n:]
		}
		if !sameLists(got, want) || !bytes.Equal(kept, left) || f != e {
			t.Fatal("other by pieces", all, got, want, f, e)
		}
	}
}
