package tags

import (
	"math"
	"math/rand"
	"slices"
	"testing"

	"truchman/api"
	"truchman/ask"
)

func queue(t *testing.T, most int) *Tags {
	t.Helper()
	q, e := New(most)
	if e != api.OK || q == nil {
		t.Fatal(most, e)
	}
	return q
}

// request is a request of a tag, which tells the requests of one tag apart by a number.
func request(tag, n int) api.Ask {
	return api.Ask{Type: api.Tclunk, Tag: tag, Fid: n}
}

// put puts requests of these tags.
func put(t *testing.T, q *Tags, tags ...int) {
	t.Helper()
	for _, tag := range tags {
		if e := q.Put(request(tag, 0)); e != api.OK {
			t.Fatal(tag, e)
		}
	}
}

// P22.1: the bounds that may be.
func TestNew(t *testing.T) {
	for most, e := range map[int]api.Errno{1: api.OK, 8: api.OK, 0: api.ErrArg, 9: api.ErrArg, -1: api.ErrArg, math.MinInt: api.ErrArg, math.MaxInt: api.ErrArg} {
		if q, f := New(most); f != e || (q == nil) != (e != api.OK) {
			t.Error(most, f)
		}
	}
	q := queue(t, 8)
	if q.Len() != 0 || len(q.Live()) != 0 || q.Has(0) || q.Flush(0) {
		t.Error("in a new one a request waits")
	}
}

// P22.1: no two of one tag, and no more than the bound; ErrTwice is told first.
func TestPut(t *testing.T) {
	q := queue(t, 2)
	for _, c := range []struct {
		tag  int
		e    api.Errno
		live []int
	}{
		{3, api.OK, []int{3}}, {3, api.ErrTwice, []int{3}}, {0, api.OK, []int{3, 0}}, {4, api.ErrFull, []int{3, 0}}, {3, api.ErrTwice, []int{3, 0}}, {0, api.ErrTwice, []int{3, 0}},
	} {
		if e := q.Put(request(c.tag, len(c.live))); e != c.e || !slices.Equal(q.Live(), c.live) || q.Len() != len(c.live) {
			t.Error(c, e, q.Live())
		}
	}
	if a, e := q.Pick(0); !ask.Same(a, request(3, 1)) || e != api.OK {
		t.Error("a refused one changes something", a, e)
	}
	q = queue(t, 8)
	put(t, q, 1, 2, 3, 4, 5, 6, 7, 65535)
	if e := q.Put(request(8, 0)); e != api.ErrFull {
		t.Error(e)
	}
}

// P22.2: a request is picked by its number; those behind it come one ahead.
func TestPick(t *testing.T) {
	q := queue(t, 4)
	put(t, q, 10, 11, 12, 13)
	for _, c := range []struct {
		k, tag int
		e      api.Errno
		live   []int
	}{
		{4, 0, api.ErrNone, []int{10, 11, 12, 13}}, {-1, 0, api.ErrNone, []int{10, 11, 12, 13}}, {math.MinInt, 0, api.ErrNone, []int{10, 11, 12, 13}}, {math.MaxInt, 0, api.ErrNone, []int{10, 11, 12, 13}},
		{1, 11, api.OK, []int{10, 12, 13}}, {3, 0, api.ErrNone, []int{10, 12, 13}}, {2, 13, api.OK, []int{10, 12}}, {0, 10, api.OK, []int{12}}, {0, 12, api.OK, nil}, {0, 0, api.ErrNone, nil},
	} {
		a, e := q.Pick(c.k)
		want := api.Ask{}
		if c.e == api.OK {
			want = request(c.tag, 0)
		}
		if !ask.Same(a, want) || e != c.e || !slices.Equal(q.Live(), c.live) || q.Len() != len(c.live) || q.Has(c.tag) && c.e == api.OK {
			t.Error(c, a, e, q.Live())
		}
	}
	put(t, q, 10)
	if a, e := q.Pick(0); a.Tag != 10 || e != api.OK {
		t.Error(a, e)
	}
}

// P22.2: a request is flushed by its tag.
func TestFlush(t *testing.T) {
	q := queue(t, 3)
	put(t, q, 5, 6, 7)
	if q.Flush(4) || q.Flush(-1) || !q.Flush(6) || q.Flush(6) || q.Has(6) || !q.Has(5) || !q.Has(7) || !slices.Equal(q.Live(), []int{5, 7}) {
		t.Error(q.Live())
	}
	if a, e := q.Pick(1); a.Tag != 7 || e != api.OK {
		t.Error(a, e)
	}
	put(t, q, 6)
	if !q.Flush(5) || !q.Flush(6) || q.Len() != 0 || q.Flush(0) {
		t.Error(q.Live())
	}
}

// R4: a request that waits is not the one that was handed in, nor are the tags that are told.
func TestNewMemory(t *testing.T) {
	q := queue(t, 3)
	names, data := []string{"a", "b"}, []byte("abc")
	q.Put(api.Ask{Type: api.Twalk, Tag: 1, Names: names})
	q.Put(api.Ask{Type: api.Twrite, Tag: 2, Data: data})
	names[0], data[0] = "x", 'x'
	clear(q.Live())
	if a, _ := q.Pick(0); !slices.Equal(a.Names, []string{"a", "b"}) {
		t.Error(a)
	}
	if a, _ := q.Pick(0); string(a.Data) != "abc" || a.Tag != 2 {
		t.Error(a)
	}
}

// P22.3: each request that was put is picked once, or flushed.
func TestOnce(t *testing.T) {
	dice := rand.New(rand.NewSource(22))
	q := queue(t, 5)
	var row []api.Ask
	at := func(tag int) int { return slices.IndexFunc(row, func(a api.Ask) bool { return a.Tag == tag }) }
	for n := range 5000 {
		tag := dice.Intn(8)
		switch dice.Intn(5) {
		case 0, 1, 2:
			e := q.Put(request(tag, n))
			if (e == api.ErrTwice) != (at(tag) >= 0) || (e == api.OK) != (at(tag) < 0 && len(row) < 5) {
				t.Fatal(tag, e, row)
			}
			if e == api.OK {
				row = append(row, request(tag, n))
			}
		case 3:
			k := dice.Intn(6)
			a, e := q.Pick(k)
			if (e == api.OK) != (k < len(row)) || e == api.OK && !ask.Same(a, row[k]) {
				t.Fatal(k, a, e, row)
			}
			if e == api.OK {
				row = slices.Delete(row, k, k+1)
			}
		case 4:
			k := at(tag)
			if q.Flush(tag) != (k >= 0) {
				t.Fatal(tag, row)
			}
			if k >= 0 {
				row = slices.Delete(row, k, k+1)
			}
		}
		var live []int
		for _, a := range row {
			live = append(live, a.Tag)
		}
		if !slices.Equal(q.Live(), live) || q.Len() != len(row) || q.Has(tag) != (at(tag) >= 0) {
			t.Fatal(q.Live(), live)
		}
	}
}
