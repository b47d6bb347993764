package mux

import (
	"math"
	"math/rand"
	"slices"
	"testing"

	"truchman/api"
)

const top = math.MaxUint32

func mux(t *testing.T, first uint32, most int) *Mux[string] {
	t.Helper()
	m, e := New[string](first, most)
	if e != api.OK || m == nil {
		t.Fatal(first, most, e)
	}
	return m
}

// calls makes a call that is to get this number.
func calls(t *testing.T, m *Mux[string], proc uint32, x string, want uint32) {
	t.Helper()
	if xid, e := m.Call(proc, x); xid != want || e != api.OK {
		t.Errorf("number %d, errno %d, not %d", xid, e, want)
	}
}

// P7.1: the bounds that may be.
func TestNew(t *testing.T) {
	for most, e := range map[int]api.Errno{1: api.OK, 16: api.OK, 0: api.ErrArg, 17: api.ErrArg, -1: api.ErrArg, math.MinInt: api.ErrArg, math.MaxInt: api.ErrArg} {
		if m, f := New[int](5, most); f != e || (m == nil) != (e != api.OK) {
			t.Error(most, f)
		}
	}
	m := mux(t, 5, 1)
	if m.Len() != 0 || len(m.Live()) != 0 || m.Has(5) || m.Has(0) || m.Drop(5) {
		t.Error("a new one has calls")
	}
}

// P7.1: numbers go on by one, 0 behind the greatest, over those that wait.
func TestNumbers(t *testing.T) {
	m := mux(t, top-1, 4)
	calls(t, m, 1, "a", top-1)
	calls(t, m, 2, "b", top)
	calls(t, m, 3, "c", 0)
	m.Seek(top - 1)
	calls(t, m, 4, "d", 1)
	if !slices.Equal(m.Live(), []uint32{0, 1, top - 1, top}) || m.Len() != 4 {
		t.Error(m.Live())
	}
	m.Drop(top)
	m.Seek(top - 1)
	calls(t, m, 5, "e", top)
	m.Drop(0)
	calls(t, m, 6, "f", 0)
	m.Drop(1)
	m.Seek(77)
	calls(t, m, 7, "g", 77)
	m.Match(77, 7)
	calls(t, m, 8, "h", 78)
}

// P7.1: as many as the bound; one more changes nothing, the next number neither.
func TestFull(t *testing.T) {
	m := mux(t, top, 2)
	calls(t, m, 1, "a", top)
	calls(t, m, 2, "b", 0)
	for range 3 {
		if xid, e := m.Call(3, "c"); xid != 0 || e != api.ErrFull || m.Len() != 2 {
			t.Error(xid, e, m.Len())
		}
	}
	if x, e := m.Match(0, 2); x != "b" || e != api.OK {
		t.Error(x, e)
	}
	calls(t, m, 3, "c", 1)
	if x, e := m.Match(1, 3); x != "c" || e != api.OK {
		t.Error(x, e)
	}
	m = mux(t, 0, 16)
	for n := range uint32(16) {
		calls(t, m, n, "", n)
	}
	if _, e := m.Call(0, ""); e != api.ErrFull {
		t.Error(e)
	}
}

// P7.2: a call is matched by its own number and procedure, once.
func TestMatch(t *testing.T) {
	m := mux(t, 10, 3)
	calls(t, m, 1, "a", 10)
	calls(t, m, 2, "b", 11)
	if x, e := m.Match(12, 1); x != "" || e != api.ErrNone {
		t.Error(x, e)
	}
	if x, e := m.Match(10, 2); x != "" || e != api.ErrForm || !m.Has(10) || m.Len() != 2 {
		t.Error("another procedure", x, e)
	}
	if x, e := m.Match(10, 1); x != "a" || e != api.OK || m.Has(10) || !m.Has(11) || m.Len() != 1 {
		t.Error(x, e)
	}
	if x, e := m.Match(10, 1); x != "" || e != api.ErrNone {
		t.Error("again", x, e)
	}
	if x, e := m.Match(11, 2); x != "b" || e != api.OK || m.Len() != 0 {
		t.Error(x, e)
	}
}

// P7.2: a call that is dropped waits no more.
func TestDrop(t *testing.T) {
	m := mux(t, 0, 2)
	calls(t, m, 1, "a", 0)
	calls(t, m, 1, "b", 1)
	if m.Drop(2) || !m.Drop(0) || m.Drop(0) || m.Has(0) || !m.Has(1) || m.Len() != 1 || !slices.Equal(m.Live(), []uint32{1}) {
		t.Error(m.Live())
	}
	if x, e := m.Match(0, 1); x != "" || e != api.ErrNone {
		t.Error(x, e)
	}
	calls(t, m, 1, "c", 2)
}

// R4: what Live tells is new memory.
func TestLiveIsNew(t *testing.T) {
	m := mux(t, 3, 2)
	calls(t, m, 1, "a", 3)
	m.Live()[0] = 9
	if !slices.Equal(m.Live(), []uint32{3}) || !m.Has(3) {
		t.Error(m.Live())
	}
}

// A mux keeps things of any type, as they are.
func TestKept(t *testing.T) {
	m, _ := New[*int](0, 1)
	x := new(int)
	m.Call(1, x)
	if y, _ := m.Match(0, 1); y != x {
		t.Error("another thing is kept")
	}
	if y, e := m.Match(0, 1); y != nil || e != api.ErrNone {
		t.Error(y, e)
	}
}

// P7.3: no two that wait have one number, and each is matched once at most.
func TestOnce(t *testing.T) {
	dice := rand.New(rand.NewSource(7))
	m := mux(t, top-3, 5)
	waits := map[uint32]uint32{}
	for range 5000 {
		xid, proc := top-5+uint32(dice.Intn(12)), uint32(dice.Intn(2))
		switch dice.Intn(4) {
		case 0:
			n, e := m.Call(proc, string(rune('a'+proc)))
			if _, twice := waits[n]; e == api.OK && twice || (e == api.ErrFull) != (len(waits) == 5) {
				t.Fatal(n, e, waits)
			}
			if e == api.OK {
				waits[n] = proc
			}
		case 1:
			own, ok := waits[xid]
			x, e := m.Match(xid, proc)
			if (e == api.OK) != (ok && own == proc) || (e == api.ErrNone) != !ok || e == api.OK && x != string(rune('a'+proc)) {
				t.Fatal(xid, proc, e, waits)
			}
			if e == api.OK {
				delete(waits, xid)
			}
		case 2:
			if _, ok := waits[xid]; dice.Intn(5) == 0 && m.Drop(xid) != ok {
				t.Fatal(xid, waits)
			} else if !m.Has(xid) {
				delete(waits, xid)
			}
		case 3:
			m.Seek(xid)
		}
		if m.Len() != len(waits) || !slices.IsSorted(m.Live()) || len(m.Live()) != len(waits) {
			t.Fatal(m.Live(), waits)
		}
	}
}
