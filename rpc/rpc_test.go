package rpc

import (
	"bytes"
	"errors"
	"fmt"
	"math"
	"math/rand"
	"testing"

	"truchman/api"
)

// words is numbers of 32 bits, the greatest part first.
func words(l ...uint32) []byte {
	var b []byte
	for _, n := range l {
		b = append(b, byte(n>>24), byte(n>>16), byte(n>>8), byte(n))
	}
	return b
}

// P6.1: the bytes of calls and replies.
func TestWrite(t *testing.T) {
	for _, c := range []struct {
		m    Msg
		want []byte
	}{
		{Msg{}, words(0, 0, 2, 536870913, 1, 0)},
		{Msg{Xid: 7, Proc: 3}, words(7, 0, 2, 536870913, 1, 3)},
		{Msg{Xid: math.MaxUint32, Proc: math.MaxUint32, Body: []byte{5}}, append(words(math.MaxUint32, 0, 2, 536870913, 1, math.MaxUint32), 5)},
		{Msg{Reply: true, Xid: 7, Proc: 3}, words(7, 1, 0, 3)},
		{Msg{Reply: true, Xid: 1 << 31, Proc: 1 << 24, Body: []byte("abc")}, append(words(1<<31, 1, 0, 1<<24), "abc"...)},
	} {
		if got := Write(c.m); !bytes.Equal(got, c.want) {
			t.Error(c.m, got)
		}
	}
}

// P6.1: what is read, and the fault of each number.
func TestRead(t *testing.T) {
	call, reply := words(7, 0, 2, 536870913, 1, 3), words(7, 1, 0, 3)
	with := func(b []byte, at int, n uint32) []byte {
		return append(append(append([]byte(nil), b[:at]...), words(n)...), b[at+4:]...)
	}
	for _, c := range []struct {
		name string
		b    []byte
		m    Msg
		e    api.Errno
		at   int
	}{
		{"call", call, Msg{Xid: 7, Proc: 3}, api.OK, -1},
		{"call with a body", append(call[:24:24], 1, 2), Msg{Xid: 7, Proc: 3, Body: []byte{1, 2}}, api.OK, -1},
		{"reply", reply, Msg{Reply: true, Xid: 7, Proc: 3}, api.OK, -1},
		{"reply with a body", append(reply[:16:16], 1, 2, 3), Msg{Reply: true, Xid: 7, Proc: 3, Body: []byte{1, 2, 3}}, api.OK, -1},
		{"neither", with(call, 4, 2), Msg{}, api.ErrForm, 4},
		{"neither, and short then", words(7, 256), Msg{}, api.ErrForm, 4},
		{"third of a call", with(call, 8, 0), Msg{}, api.ErrForm, 8},
		{"fourth of a call", with(call, 12, 536870912), Msg{}, api.ErrForm, 12},
		{"fifth of a call", with(call, 16, 0), Msg{}, api.ErrForm, 16},
		{"third and fifth of a call", with(with(call, 16, 2), 8, 3), Msg{}, api.ErrForm, 8},
		{"third of a call, and short then", words(7, 0, 1), Msg{}, api.ErrForm, 8},
		{"third of a reply", with(reply, 8, 1), Msg{}, api.ErrForm, 8},
		{"third of a reply, and short then", words(7, 1, 2), Msg{}, api.ErrForm, 8},
	} {
		m, err := Read(c.b)
		if !Same(m, c.m) || Number(err) != c.e || Place(err) != c.at || (err == nil) != (c.e == api.OK) {
			t.Errorf("%s: %v %v", c.name, m, err)
		}
		if f, ok := err.(*Fault); err != nil && (!ok || *f != Fault{Errno: c.e, At: c.at}) {
			t.Errorf("%s: no fault: %v", c.name, err)
		}
	}
	for _, b := range [][]byte{call, reply} {
		for n := range b {
			m, err := Read(b[:n])
			if f, ok := err.(*Fault); !ok || *f != (Fault{Errno: api.ErrShort, At: n / 4 * 4}) || !Same(m, Msg{}) {
				t.Error("cut to", n, m, err)
			}
		}
	}
}

// R4: a body that is read is new memory, and so are bytes that are written.
func TestNewMemory(t *testing.T) {
	b := append(words(7, 1, 0, 3), "abc"...)
	m, _ := Read(b)
	b[16] = 'x'
	w := Write(m)
	w[16] = 'y'
	if string(m.Body) != "abc" || b[16] != 'x' {
		t.Error(m, b)
	}
}

// trap says of itself that it is a fault; other wraps something, and says nothing.
type trap struct{ f *Fault }

func (w trap) Error() string { return "trap" }

func (w trap) As(to any) bool {
	f, ok := to.(**Fault)
	if ok {
		*f = w.f
	}
	return ok
}

type other struct{ err error }

func (o other) Error() string { return "other" }

func (o other) Unwrap() error { return o.err }

// P6.2: numbers and places of faults, wrapped or not, and of other errors.
func TestNumber(t *testing.T) {
	f, g := &Fault{Errno: api.ErrShort, At: 12}, &Fault{Errno: api.ErrForm, At: 4}
	for i, c := range []struct {
		err error
		e   api.Errno
		at  int
	}{
		{nil, api.OK, -1},
		{f, api.ErrShort, 12},
		{&Fault{}, api.OK, 0},
		{fmt.Errorf("behind: %w", f), api.ErrShort, 12},
		{other{other{g}}, api.ErrForm, 4},
		{errors.Join(errors.New("x"), g, f), api.ErrForm, 4},
		{errors.Join(other{f}, g), api.ErrShort, 12},
		{trap{g}, api.ErrForm, 4},
		{errors.New("x"), api.ErrArg, -1},
		{api.ErrShort, api.ErrArg, -1},
		{api.OK, api.ErrArg, -1},
		{other{nil}, api.ErrArg, -1},
		{other{api.ErrForm}, api.ErrArg, -1},
	} {
		if Number(c.err) != c.e || Place(c.err) != c.at {
			t.Error(i, Number(c.err), Place(c.err))
		}
	}
}

// P6.2: a fault in print.
func TestError(t *testing.T) {
	for want, f := range map[string]*Fault{
		"fault 2 4":     {Errno: api.ErrForm, At: 4},
		"fault 0 0":     {},
		"fault -1 -20":  {Errno: -1, At: -20},
		"fault 22 1234": {Errno: api.Flushed, At: 1234},
	} {
		if f.Error() != want {
			t.Error(f.Error(), want)
		}
	}
}

// P6.2: whether all fields are the same.
func TestSame(t *testing.T) {
	a := Msg{Reply: true, Xid: 1, Proc: 2, Body: []byte{3}}
	if !Same(a, Msg{Reply: true, Xid: 1, Proc: 2, Body: []byte{3}}) || !Same(Msg{}, Msg{Body: []byte{}}) {
		t.Error("the same are others")
	}
	for _, b := range []Msg{
		{Xid: 1, Proc: 2, Body: []byte{3}},
		{Reply: true, Xid: 2, Proc: 2, Body: []byte{3}},
		{Reply: true, Xid: 1, Proc: 1, Body: []byte{3}},
		{Reply: true, Xid: 1, Proc: 2, Body: []byte{4}},
		{Reply: true, Xid: 1, Proc: 2},
		{Reply: true, Xid: 1, Proc: 2, Body: []byte{3, 3}},
	} {
		if Same(a, b) || Same(b, a) {
			t.Error("another one is the same", b)
		}
	}
}

// P6.3: what is written is read as it was.
func TestWrittenAndRead(t *testing.T) {
	dice := rand.New(rand.NewSource(6))
	for range 300 {
		m := Msg{Reply: dice.Intn(2) == 0, Xid: dice.Uint32(), Proc: dice.Uint32(), Body: make([]byte, dice.Intn(30))}
		dice.Read(m.Body)
		if got, err := Read(Write(m)); !Same(got, m) || err != nil {
			t.Fatal(m, got, err)
		}
	}
}
