package fids

import (
	"math"
	"math/rand"
	"slices"
	"testing"

	"truchman/api"
)

func fids(t *testing.T, most int) *Fids {
	t.Helper()
	f, e := New(most)
	if e != api.OK || f == nil {
		t.Fatal(most, e)
	}
	return f
}

func fid(n int) Fid {
	return Fid{H: api.Handle{Ino: n, Gen: 1}, Up: api.Handle{Ino: 1, Gen: n}, Name: "a", Dir: true, Open: n%2 == 0, Mode: n, Off: 2 * n, At: 3 * n}
}

// P20.1: the bounds that may be.
func TestNew(t *testing.T) {
	for most, e := range map[int]api.Errno{1: api.OK, 16: api.OK, 0: api.ErrArg, 17: api.ErrArg, -1: api.ErrArg, math.MinInt: api.ErrArg, math.MaxInt: api.ErrArg} {
		if f, g := New(most); g != e || (f == nil) != (e != api.OK) {
			t.Error(most, g)
		}
	}
	f := fids(t, 1)
	if f.Len() != 0 || len(f.All()) != 0 || f.Free(0) != api.OK {
		t.Error("a new one has fids")
	}
}

// P20.1: a number that is free is added; FidBusy is told ahead of ErrFull.
func TestAdd(t *testing.T) {
	f := fids(t, 2)
	for _, c := range []struct {
		n   int
		e   api.Errno
		len int
	}{{7, api.OK, 1}, {7, api.FidBusy, 1}, {-1, api.OK, 2}, {8, api.ErrFull, 2}, {7, api.FidBusy, 2}, {-1, api.FidBusy, 2}, {math.MinInt, api.ErrFull, 2}} {
		if e := f.Free(c.n); e != c.e {
			t.Error("Free", c, e)
		}
		if e := f.Add(c.n, fid(c.n)); e != c.e || f.Len() != c.len {
			t.Error("Add", c, e, f.Len())
		}
	}
	for _, n := range []int{7, -1} {
		if x, e := f.Get(n); x != fid(n) || e != api.OK {
			t.Error(n, x, e)
		}
	}
	f = fids(t, 16)
	for n := range 16 {
		f.Add(n, fid(n))
	}
	if e := f.Add(16, fid(16)); e != api.ErrFull || f.Len() != 16 {
		t.Error(e)
	}
}

// P20.1: what a number stands for is got, set, and dropped.
func TestSetDrop(t *testing.T) {
	f := fids(t, 2)
	f.Add(3, fid(3))
	f.Add(4, fid(4))
	for _, n := range []int{0, 5, -3, math.MaxInt} {
		if x, e := f.Get(n); x != (Fid{}) || e != api.BadFid {
			t.Error("Get", n, x, e)
		}
		if e := f.Set(n, fid(9)); e != api.BadFid {
			t.Error("Set", n, e)
		}
		if e := f.Drop(n); e != api.BadFid {
			t.Error("Drop", n, e)
		}
	}
	if e := f.Set(3, fid(8)); e != api.OK || f.Len() != 2 {
		t.Error(e)
	}
	if x, e := f.Get(3); x != fid(8) || e != api.OK {
		t.Error(x, e)
	}
	if x, e := f.Get(4); x != fid(4) || e != api.OK {
		t.Error(x, e)
	}
	if e := f.Drop(3); e != api.OK || f.Len() != 1 {
		t.Error(e)
	}
	if e := f.Drop(3); e != api.BadFid {
		t.Error(e)
	}
	if e := f.Add(5, fid(5)); e != api.OK || !slices.Equal(f.All(), []int{4, 5}) {
		t.Error(e, f.All())
	}
}

// P20.1: the numbers, rising, in new memory; and none behind Clear.
func TestAll(t *testing.T) {
	f := fids(t, 16)
	for _, n := range []int{5, math.MaxInt, -2, 0, 9} {
		f.Add(n, fid(n))
	}
	clear(f.All())
	if got := f.All(); !slices.Equal(got, []int{-2, 0, 5, 9, math.MaxInt}) {
		t.Error(got)
	}
	f.Clear()
	if _, e := f.Get(5); e != api.BadFid || f.Len() != 0 || len(f.All()) != 0 || f.Free(5) != api.OK {
		t.Error(e, f.Len())
	}
	if e := f.Add(5, fid(1)); e != api.OK {
		t.Error(e)
	}
}

// P20.2: what one number stands for is changed by no call of another one.
func TestApart(t *testing.T) {
	dice := rand.New(rand.NewSource(20))
	f, own := fids(t, 5), map[int]Fid{}
	for i := range 5000 {
		n := dice.Intn(9)
		_, there := own[n]
		switch dice.Intn(4) {
		case 0:
			if e := f.Add(n, fid(i)); (e == api.OK) != (!there && len(own) < 5) {
				t.Fatal(n, e)
			} else if e == api.OK {
				own[n] = fid(i)
			}
		case 1:
			if e := f.Set(n, fid(-i)); (e == api.OK) != there {
				t.Fatal(n, e)
			} else if e == api.OK {
				own[n] = fid(-i)
			}
		case 2:
			if e := f.Drop(n); (e == api.OK) != there {
				t.Fatal(n, e)
			}
			delete(own, n)
		case 3:
			if dice.Intn(50) == 0 {
				f.Clear()
				clear(own)
			}
		}
		for n := range 9 {
			x, e := f.Get(n)
			if y, ok := own[n]; x != y || (e == api.OK) != ok {
				t.Fatal(n, x, y, e)
			}
		}
	}
}
