package dir

import (
	"maps"
	"math"
	"math/rand"
	"slices"
	"strings"
	"testing"

	"truchman/api"
)

func handle(n int) api.Handle { return api.Handle{Ino: n, Gen: 2 * n} }

// of is a directory of these names, the first one with the handle 1, and so on.
func of(t *testing.T, names ...string) *Dir {
	t.Helper()
	d := New()
	for i, s := range names {
		if e := d.Put(s, handle(i+1)); e != api.OK {
			t.Fatal(s, e)
		}
	}
	return d
}

// names is the names of All, with a bar behind each, which are to have these handles.
func names(t *testing.T, d *Dir, handles ...int) string {
	t.Helper()
	s := ""
	for n, h := range d.All() {
		s += n + "|"
		if len(handles) == 0 || h != handle(handles[0]) {
			t.Error("handle of", n, h, handles)
		} else {
			handles = handles[1:]
		}
	}
	return s
}

// P11.1: entries are put, rising by their bytes, no two of one name.
func TestPut(t *testing.T) {
	d := New()
	if d.Len() != 0 || names(t, d) != "" {
		t.Error("a new one has entries")
	}
	d = of(t, "b", "a", "\xff", "B", "aa", "-")
	if got := names(t, d, 6, 4, 2, 5, 1, 3); got != "-|B|a|aa|b|\xff|" || d.Len() != 6 {
		t.Errorf("%q", got)
	}
	for _, s := range []string{"b", "a", "\xff", "aa"} {
		if e := d.Put(s, handle(99)); e != api.Exist {
			t.Error(s, e)
		}
	}
	for _, s := range []string{"", ".", "..", "a/b", "a\x00", strings.Repeat("x", 33)} {
		if e := d.Put(s, handle(99)); e != api.BadName {
			t.Errorf("%q %d", s, e)
		}
	}
	if got := names(t, d, 6, 4, 2, 5, 1, 3); d.Len() != 6 {
		t.Error("a refused one changes something", got)
	}
}

// P11.1: an entry's handle is got and set; an entry is dropped.
func TestSetGetDrop(t *testing.T) {
	d := of(t, "c", "a", "b")
	if h, e := d.Get("b"); h != handle(3) || e != api.OK {
		t.Error(h, e)
	}
	if e := d.Set("b", handle(7)); e != api.OK || d.Len() != 3 {
		t.Error(e)
	}
	if h, e := d.Get("b"); h != handle(7) || e != api.OK {
		t.Error(h, e)
	}
	for _, s := range []string{"", "..", "ab", "d", "A", strings.Repeat("x", 40)} {
		if h, e := d.Get(s); h != (api.Handle{}) || e != api.NoEnt {
			t.Error("Get", s, h, e)
		}
		if e := d.Set(s, handle(8)); e != api.NoEnt {
			t.Error("Set", s, e)
		}
		if e := d.Drop(s); e != api.NoEnt {
			t.Error("Drop", s, e)
		}
	}
	if got := names(t, d, 2, 7, 1); got != "a|b|c|" {
		t.Error(got)
	}
	if e := d.Drop("b"); e != api.OK || d.Len() != 2 {
		t.Error(e)
	}
	if _, e := d.Get("b"); e != api.NoEnt {
		t.Error(e)
	}
	if got := names(t, d, 2, 1); got != "a|c|" {
		t.Error(got)
	}
	if e := d.Put("b", handle(9)); e != api.OK {
		t.Error(e)
	}
}

// P11.1: Clear leaves none, and all may be put again.
func TestClear(t *testing.T) {
	d := of(t, "a", "b")
	d.Clear()
	if _, e := d.Get("a"); e != api.NoEnt || d.Len() != 0 || names(t, d) != "" {
		t.Error(e, d.Len())
	}
	d.Put("b", handle(5))
	d.Put("a", handle(6))
	if got := names(t, d, 6, 5); got != "a|b|" {
		t.Error(got)
	}
	New().Clear()
}

// P11.1: a sequence tells what there is when it begins, each time.
func TestAll(t *testing.T) {
	d := of(t, "b", "d")
	all := d.All()
	if New().All() == nil {
		t.Error("no sequence")
	}
	d.Put("c", handle(3))
	var got []string
	for s, h := range all {
		got = append(got, s)
		if s == "b" {
			d.Put("bb", handle(4))
			d.Drop("c")
			d.Set("d", handle(5))
		}
		if s == "c" && h != handle(3) || s == "d" && h != handle(2) {
			t.Error(s, h)
		}
	}
	if !slices.Equal(got, []string{"b", "c", "d"}) {
		t.Error(got)
	}
	if got := slices.Sorted(maps.Keys(maps.Collect(all))); !slices.Equal(got, []string{"b", "bb", "d"}) {
		t.Error("then", got)
	}
	for s := range all {
		d.Clear()
		got = append(got[:0], s)
		break
	}
	if !slices.Equal(got, []string{"b"}) || d.Len() != 0 {
		t.Error("left early", got)
	}
	d = of(t, "a", "b", "c")
	got = nil
	for s := range d.All() {
		d.Clear()
		d.Put("z", handle(1))
		got = append(got, s)
	}
	if !slices.Equal(got, []string{"a", "b", "c"}) || names(t, d, 1) != "z|" {
		t.Error("cleared meanwhile", got)
	}
}

// P11.2: pages, and whether they are the last ones.
func TestPage(t *testing.T) {
	d := of(t, "b", "a", "c")
	for _, c := range []struct {
		from, most int
		want       string
		last       bool
		e          api.Errno
	}{
		{0, 1, "a", false, api.OK},
		{0, 2, "ab", false, api.OK},
		{0, 3, "abc", true, api.OK},
		{0, 4, "abc", true, api.OK},
		{0, math.MaxInt, "abc", true, api.OK},
		{1, math.MaxInt, "bc", true, api.OK},
		{1, 1, "b", false, api.OK},
		{2, 1, "c", true, api.OK},
		{0, 0, "", false, api.OK},
		{2, 0, "", false, api.OK},
		{2, -1, "", false, api.OK},
		{0, math.MinInt, "", false, api.OK},
		{3, 0, "", true, api.OK},
		{3, -5, "", true, api.OK},
		{3, 9, "", true, api.OK},
		{4, 1, "", false, api.BadCookie},
		{-1, 1, "", false, api.BadCookie},
		{-1, -1, "", false, api.BadCookie},
		{math.MinInt, 1, "", false, api.BadCookie},
		{math.MaxInt, math.MaxInt, "", false, api.BadCookie},
	} {
		l, last, e := d.Page(c.from, c.most)
		got := ""
		for _, x := range l {
			got += x.Name
			if h, _ := d.Get(x.Name); x.Handle != h {
				t.Error(x)
			}
		}
		if got != c.want || last != c.last || e != c.e {
			t.Error(c, got, last, e)
		}
	}
	if l, last, e := New().Page(0, 1); len(l) != 0 || !last || e != api.OK {
		t.Error("of none", l, last, e)
	}
	if _, _, e := New().Page(1, 1); e != api.BadCookie {
		t.Error("behind none", e)
	}
}

// R4: a page is new memory.
func TestPageIsNew(t *testing.T) {
	d := of(t, "a", "b")
	l, _, _ := d.Page(0, 1)
	_ = append(l, api.Entry{Name: "x"})
	l[0].Name = "y"
	if got := names(t, d, 1, 2); got != "a|b|" {
		t.Error(got)
	}
}

// P11.3: pages one behind the other are all entries.
func TestPages(t *testing.T) {
	dice := rand.New(rand.NewSource(11))
	for range 200 {
		d, all := New(), map[string]api.Handle{}
		for range dice.Intn(30) {
			s, h := string(rune('a'+dice.Intn(26))), handle(dice.Intn(99))
			if dice.Intn(4) == 0 {
				d.Drop(s)
				delete(all, s)
			} else if d.Put(s, h) == api.OK {
				all[s] = h
			}
		}
		var got []string
		for last := false; !last; {
			var l []api.Entry
			var e api.Errno
			if l, last, e = d.Page(len(got), 1+dice.Intn(4)); e != api.OK {
				t.Fatal(e)
			}
			for _, x := range l {
				got = append(got, x.Name)
				if x.Handle != all[x.Name] {
					t.Fatal(x, all)
				}
			}
		}
		if !slices.Equal(got, slices.Sorted(maps.Keys(all))) {
			t.Fatal(got, all)
		}
	}
}
