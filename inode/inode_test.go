package inode

import (
	"fmt"
	"math"
	"math/rand"
	"testing"

	"truchman/api"
)

func table(t *testing.T, most int) *Table[string] {
	t.Helper()
	x, e := New[string](most)
	if e != api.OK || x == nil {
		t.Fatal(most, e)
	}
	return x
}

// add adds something that is to get this handle.
func add(t *testing.T, x *Table[string], s string, ino, gen int) {
	t.Helper()
	if h, e := x.Add(s); h != (api.Handle{Ino: ino, Gen: gen}) || e != api.OK {
		t.Error(s, h, e)
	}
}

// each is what Each tells.
func each(x *Table[string]) string {
	s := ""
	x.Each(func(h api.Handle, x string) { s += fmt.Sprintf("%d %d %s;", h.Ino, h.Gen, x) })
	return s
}

// P10.1: the bounds that may be.
func TestNew(t *testing.T) {
	for most, e := range map[int]api.Errno{1: api.OK, 64: api.OK, 0: api.ErrArg, 65: api.ErrArg, -1: api.ErrArg, math.MinInt: api.ErrArg, math.MaxInt: api.ErrArg} {
		if x, f := New[int](most); f != e || (x == nil) != (e != api.OK) {
			t.Error(most, f)
		}
	}
	if x := table(t, 3); x.Len() != 0 || each(x) != "" {
		t.Error("something is in a new one")
	}
}

// P10.1: the place of the least number, its generation, and none that is free.
func TestAdd(t *testing.T) {
	x := table(t, 3)
	add(t, x, "a", 1, 1)
	add(t, x, "b", 2, 1)
	add(t, x, "c", 3, 1)
	if h, e := x.Add("d"); h != (api.Handle{}) || e != api.NoSpace || x.Len() != 3 {
		t.Error(h, e, x.Len())
	}
	x.Remove(api.Handle{Ino: 3, Gen: 1})
	x.Remove(api.Handle{Ino: 1, Gen: 1})
	add(t, x, "e", 1, 2)
	add(t, x, "f", 3, 2)
	x.Remove(api.Handle{Ino: 1, Gen: 2})
	add(t, x, "g", 1, 3)
	if got := each(x); got != "1 3 g;2 1 b;3 2 f;" {
		t.Error(got)
	}
	x = table(t, 64)
	for i := range 64 {
		add(t, x, "", i+1, 1)
	}
	if _, e := x.Add(""); e != api.NoSpace {
		t.Error(e)
	}
}

// P10.2: handles that are stale, of every kind.
func TestStale(t *testing.T) {
	x := table(t, 3)
	add(t, x, "a", 1, 1)
	add(t, x, "b", 2, 1)
	x.Remove(api.Handle{Ino: 1, Gen: 1})
	add(t, x, "c", 1, 2)
	for _, h := range []api.Handle{{}, {Ino: 0, Gen: 1}, {Ino: -1, Gen: 1}, {Ino: 4, Gen: 1}, {Ino: 3, Gen: 0}, {Ino: 3, Gen: 1}, {Ino: 1, Gen: 1}, {Ino: 1, Gen: 3}, {Ino: 1, Gen: 0}, {Ino: 2, Gen: -1}, {Ino: math.MinInt, Gen: 1}, {Ino: math.MaxInt, Gen: math.MaxInt}} {
		if s, e := x.Get(h); s != "" || e != api.Stale {
			t.Error("Get", h, s, e)
		}
		if e := x.Set(h, "z"); e != api.Stale {
			t.Error("Set", h, e)
		}
		if e := x.Remove(h); e != api.Stale {
			t.Error("Remove", h, e)
		}
	}
	if got := each(x); x.Len() != 2 || got != "1 2 c;2 1 b;" {
		t.Error("a stale handle changes something", got)
	}
}

// P10.2: what is there is got, set with the same handle, and removed.
func TestGet(t *testing.T) {
	x := table(t, 2)
	h, _ := x.Add("a")
	if s, e := x.Get(h); s != "a" || e != api.OK {
		t.Error(s, e)
	}
	if e := x.Set(h, "b"); e != api.OK || x.Len() != 1 {
		t.Error(e)
	}
	if s, e := x.Get(h); s != "b" || e != api.OK {
		t.Error(s, e)
	}
	if e := x.Remove(h); e != api.OK || x.Len() != 0 {
		t.Error(e, x.Len())
	}
	if s, e := x.Get(h); s != "" || e != api.Stale {
		t.Error(s, e)
	}
	if e := x.Remove(h); e != api.Stale || x.Len() != 0 {
		t.Error(e, x.Len())
	}
}

// P10.3: a handle whose thing was removed is stale for ever.
func TestStaleForEver(t *testing.T) {
	dice := rand.New(rand.NewSource(10))
	x := table(t, 4)
	there, gone := map[api.Handle]string{}, map[api.Handle]bool{}
	for n := range 3000 {
		s := fmt.Sprint(n)
		if dice.Intn(2) == 0 {
			h, e := x.Add(s)
			if (e == api.OK) != (len(there) < 4) || gone[h] || there[h] != "" {
				t.Fatal(h, e)
			}
			if e == api.OK {
				there[h] = s
			}
		} else {
			for h := range there {
				if e := x.Remove(h); e != api.OK {
					t.Fatal(h, e)
				}
				delete(there, h)
				gone[h] = true
				break
			}
		}
		for h := range gone {
			if _, e := x.Get(h); e != api.Stale {
				t.Fatal(h, e)
			}
		}
		for h, s := range there {
			if got, e := x.Get(h); got != s || e != api.OK {
				t.Fatal(h, got, e)
			}
		}
		if x.Len() != len(there) {
			t.Fatal(x.Len())
		}
	}
}
