package fsys

import (
	"fmt"
	"math"
	"strings"
	"testing"

	"truchman/api"
)

// tree is a file system with the directories d (in which are the file x, of 3 bytes, and the directory y) and e, the file f, of 5 bytes, and a handle that is stale.
type tree struct {
	*FS
	root, d, e, f, x, y, stale api.Handle
}

func grow(t *testing.T, nodes, room int) *tree {
	t.Helper()
	fs, e := New(nodes, room)
	if e != api.OK || fs == nil {
		t.Fatal(e)
	}
	w := &tree{FS: fs, root: fs.Root()}
	made := func(a api.Args) api.Handle {
		t.Helper()
		r := fs.Do(a)
		if r.Errno != api.OK {
			t.Fatal(a, r)
		}
		return r.Attr.Handle
	}
	w.d = made(api.Args{Proc: api.Mkdir, H: w.root, Name: "d", Mode: 0o755})
	w.e = made(api.Args{Proc: api.Mkdir, H: w.root, Name: "e", Mode: 0o700})
	w.f = made(api.Args{Proc: api.Create, H: w.root, Name: "f", Mode: 0o644})
	w.x = made(api.Args{Proc: api.Create, H: w.d, Name: "x", Mode: 0o600})
	w.y = made(api.Args{Proc: api.Mkdir, H: w.d, Name: "y"})
	w.stale = made(api.Args{Proc: api.Create, H: w.root, Name: "gone"})
	for _, a := range []api.Args{
		{Proc: api.Remove, H: w.root, Name: "gone"},
		{Proc: api.Write, H: w.f, Data: []byte("hello")},
		{Proc: api.Write, H: w.x, Data: []byte("xyz")},
	} {
		if r := fs.Do(a); r.Errno != api.OK {
			t.Fatal(a, r)
		}
	}
	return w
}

// print is the whole tree: names, handles, kinds, modes, sizes and bytes.
func (w *tree) print(h api.Handle) string {
	a := w.Do(api.Args{Proc: api.Getattr, H: h}).Attr
	s := fmt.Sprint(a)
	if a.Kind == api.File {
		return s + fmt.Sprintf("%q", w.Do(api.Args{Proc: api.Read, H: h, Count: 4096}).Data)
	}
	s += "("
	for _, x := range w.Do(api.Args{Proc: api.Readdir, H: h, Count: 64}).Entries {
		up := w.Do(api.Args{Proc: api.Lookup, H: x.Handle, Name: ".."})
		s += x.Name + fmt.Sprint(up.Attr.Handle) + "=" + w.print(x.Handle) + " "
	}
	return s + ")"
}

// same tells whether two answers are the same, field by field.
func same(a, b api.Res) bool { return fmt.Sprintf("%+v", a) == fmt.Sprintf("%+v", b) }

// P13.1: the bounds that may be, and a new one.
func TestNew(t *testing.T) {
	for _, c := range []struct {
		nodes, room int
		e           api.Errno
	}{
		{1, 0, api.OK}, {64, 65536, api.OK}, {1, 65536, api.OK},
		{0, 0, api.ErrArg}, {65, 0, api.ErrArg}, {-1, 5, api.ErrArg}, {1, -1, api.ErrArg}, {1, 65537, api.ErrArg}, {math.MinInt, math.MaxInt, api.ErrArg},
	} {
		f, e := New(c.nodes, c.room)
		if e != c.e || (f == nil) != (c.e != api.OK) {
			t.Error(c, e)
		}
		if f == nil {
			continue
		}
		if f.Root() != (api.Handle{Ino: 1, Gen: 1}) || f.Used() != 0 || f.Nodes() != 1 {
			t.Error(f.Root(), f.Used(), f.Nodes())
		}
		want := api.Res{Attr: api.Attr{Handle: f.Root(), Kind: api.Dir, Mode: 493}}
		if r := f.Do(api.Args{Proc: api.Getattr, H: f.Root()}); !same(r, want) {
			t.Error(r)
		}
		if r := f.Do(api.Args{Proc: api.Lookup, H: f.Root(), Name: ".."}); !same(r, want) {
			t.Error("the root's directory is another one", r)
		}
		if r := f.Do(api.Args{Proc: api.Readdir, H: f.Root(), Count: 1}); !same(r, api.Res{EOF: true}) {
			t.Error(r)
		}
	}
}

// P13.2: what each procedure tells where nothing refuses it.
func TestTold(t *testing.T) {
	attr := func(h api.Handle, kind, mode, size int) api.Res {
		return api.Res{Attr: api.Attr{Handle: h, Kind: kind, Mode: mode, Size: size}}
	}
	w := grow(t, 64, 100)
	next := api.Handle{Ino: 7, Gen: 2}
	for _, c := range []struct {
		name string
		a    api.Args
		want api.Res
	}{
		{"Getattr of a file", api.Args{Proc: api.Getattr, H: w.f}, attr(w.f, api.File, 0o644, 5)},
		{"Getattr of a directory", api.Args{Proc: api.Getattr, H: w.d}, attr(w.d, api.Dir, 0o755, 2)},
		{"Lookup of a file", api.Args{Proc: api.Lookup, H: w.d, Name: "x"}, attr(w.x, api.File, 0o600, 3)},
		{"Lookup of a directory", api.Args{Proc: api.Lookup, H: w.d, Name: "y"}, attr(w.y, api.Dir, 0, 0)},
		{"Lookup of ..", api.Args{Proc: api.Lookup, H: w.y, Name: ".."}, attr(w.d, api.Dir, 0o755, 2)},
		{"Read", api.Args{Proc: api.Read, H: w.f, Off: 1, Count: 3}, api.Res{Data: []byte("ell"), Count: 3}},
		{"Read to the end", api.Args{Proc: api.Read, H: w.f, Off: 1, Count: 4}, api.Res{Data: []byte("ello"), Count: 4, EOF: true}},
		{"Read of more", api.Args{Proc: api.Read, H: w.f, Count: math.MaxInt}, api.Res{Data: []byte("hello"), Count: 5, EOF: true}},
		{"Read behind the end", api.Args{Proc: api.Read, H: w.f, Off: math.MaxInt, Count: 4}, api.Res{EOF: true}},
		{"Read of none", api.Args{Proc: api.Read, H: w.f}, api.Res{}},
		{"Read, Off below 0", api.Args{Proc: api.Read, H: w.f, Off: -3, Count: 2}, api.Res{Data: []byte("he"), Count: 2}},
		{"Read, Count below 0", api.Args{Proc: api.Read, H: w.f, Count: math.MinInt}, api.Res{}},
		{"Write", api.Args{Proc: api.Write, H: w.f, Off: 7, Data: []byte("!")}, api.Res{Attr: attr(w.f, api.File, 0o644, 8).Attr, Count: 1}},
		{"its bytes then", api.Args{Proc: api.Read, H: w.f, Count: 64}, api.Res{Data: []byte("hello\x00\x00!"), Count: 8, EOF: true}},
		{"Write, Off below 0", api.Args{Proc: api.Write, H: w.f, Off: -1, Data: []byte("J")}, api.Res{Attr: attr(w.f, api.File, 0o644, 8).Attr, Count: 1}},
		{"Write of none, far away", api.Args{Proc: api.Write, H: w.f, Off: math.MaxInt}, attr(w.f, api.File, 0o644, 8)},
		{"Setsize, fewer", api.Args{Proc: api.Setsize, H: w.f, Size: 2}, attr(w.f, api.File, 0o644, 2)},
		{"Setsize, more", api.Args{Proc: api.Setsize, H: w.f, Size: 4}, attr(w.f, api.File, 0o644, 4)},
		{"its bytes then, too", api.Args{Proc: api.Read, H: w.f, Count: 64}, api.Res{Data: []byte("Je\x00\x00"), Count: 4, EOF: true}},
		{"Setsize, below 0", api.Args{Proc: api.Setsize, H: w.f, Size: -9}, attr(w.f, api.File, 0o644, 0)},
		{"Readdir", api.Args{Proc: api.Readdir, H: w.root, Count: 2}, api.Res{Entries: []api.Entry{{Name: "d", Handle: w.d}, {Name: "e", Handle: w.e}}}},
		{"Readdir, the rest", api.Args{Proc: api.Readdir, H: w.root, Off: 2, Count: 2}, api.Res{Entries: []api.Entry{{Name: "f", Handle: w.f}}, EOF: true}},
		{"Readdir behind the last one", api.Args{Proc: api.Readdir, H: w.root, Off: 3, Count: 2}, api.Res{EOF: true}},
		{"Readdir, below 0", api.Args{Proc: api.Readdir, H: w.root, Off: -1, Count: -1}, api.Res{}},
		{"Create", api.Args{Proc: api.Create, H: w.e, Name: "n", Mode: 0o7777, Size: 9, Off: 9, Data: []byte("x")}, attr(next, api.File, 0o777, 0)},
		{"Remove", api.Args{Proc: api.Remove, H: w.e, Name: "n"}, api.Res{}},
		{"Mkdir, Mode below 0", api.Args{Proc: api.Mkdir, H: w.e, Name: "n", Mode: -1}, attr(api.Handle{Ino: 7, Gen: 3}, api.Dir, 0o777, 0)},
		{"Rmdir", api.Args{Proc: api.Rmdir, H: w.e, Name: "n"}, api.Res{}},
		{"Rename", api.Args{Proc: api.Rename, H: w.root, Name: "f", H2: w.y, Name2: "g"}, api.Res{}},
		{"its directory then", api.Args{Proc: api.Lookup, H: w.y, Name: "g"}, attr(w.f, api.File, 0o644, 0)},
		{"where it was", api.Args{Proc: api.Lookup, H: w.root, Name: "f"}, api.Res{Errno: api.NoEnt}},
	} {
		if r := w.Do(c.a); !same(r, c.want) {
			t.Errorf("%s: %+v", c.name, r)
		}
	}
}

// P13.2: the errors of each procedure, in their row; behind one nothing is changed, and nothing else is told.
func TestErrors(t *testing.T) {
	w := grow(t, 7, 20)
	w.Do(api.Args{Proc: api.Create, H: w.y, Name: "last"})
	big := make([]byte, 2049)
	for _, c := range []struct {
		name string
		a    api.Args
		e    api.Errno
	}{
		{"no procedure", api.Args{Proc: 0, H: w.stale}, api.ErrForm},
		{"no procedure", api.Args{Proc: 4, H: w.root}, api.ErrForm},
		{"no procedure", api.Args{Proc: -1}, api.ErrForm},
		{"no procedure", api.Args{Proc: 17}, api.ErrForm},
		{"Getattr", api.Args{Proc: api.Getattr, H: w.stale}, api.Stale},
		{"Getattr", api.Args{Proc: api.Getattr}, api.Stale},
		{"Setsize", api.Args{Proc: api.Setsize, H: w.stale, Size: 5000}, api.Stale},
		{"Setsize", api.Args{Proc: api.Setsize, H: w.d, Size: 5000}, api.IsDir},
		{"Setsize", api.Args{Proc: api.Setsize, H: w.f, Size: 2049}, api.TooBig},
		{"Setsize", api.Args{Proc: api.Setsize, H: w.f, Size: math.MaxInt}, api.TooBig},
		{"Setsize", api.Args{Proc: api.Setsize, H: w.f, Size: 18}, api.NoSpace},
		{"Setsize", api.Args{Proc: api.Setsize, H: w.f, Size: 2048}, api.NoSpace},
		{"Lookup", api.Args{Proc: api.Lookup, H: w.stale, Name: ".."}, api.Stale},
		{"Lookup", api.Args{Proc: api.Lookup, H: w.f, Name: ".."}, api.NotDir},
		{"Lookup", api.Args{Proc: api.Lookup, H: w.f, Name: "/"}, api.NotDir},
		{"Lookup", api.Args{Proc: api.Lookup, H: w.d, Name: "."}, api.BadName},
		{"Lookup", api.Args{Proc: api.Lookup, H: w.d, Name: ""}, api.BadName},
		{"Lookup", api.Args{Proc: api.Lookup, H: w.d, Name: strings.Repeat("x", 33)}, api.BadName},
		{"Lookup", api.Args{Proc: api.Lookup, H: w.d, Name: "f"}, api.NoEnt},
		{"Read", api.Args{Proc: api.Read, H: w.stale}, api.Stale},
		{"Read", api.Args{Proc: api.Read, H: w.root}, api.IsDir},
		{"Write", api.Args{Proc: api.Write, H: w.stale, Data: big}, api.Stale},
		{"Write", api.Args{Proc: api.Write, H: w.d, Data: big}, api.IsDir},
		{"Write", api.Args{Proc: api.Write, H: w.f, Data: big}, api.TooBig},
		{"Write", api.Args{Proc: api.Write, H: w.f, Off: 2048, Data: big[:1]}, api.TooBig},
		{"Write", api.Args{Proc: api.Write, H: w.f, Off: math.MaxInt, Data: big[:1]}, api.TooBig},
		{"Write", api.Args{Proc: api.Write, H: w.f, Off: 2047, Data: big[:1]}, api.NoSpace},
		{"Write", api.Args{Proc: api.Write, H: w.f, Off: 16, Data: big[:2]}, api.NoSpace},
		{"Create", api.Args{Proc: api.Create, H: w.stale, Name: "/"}, api.Stale},
		{"Create", api.Args{Proc: api.Create, H: w.f, Name: "/"}, api.NotDir},
		{"Create", api.Args{Proc: api.Create, H: w.root, Name: ".."}, api.BadName},
		{"Create", api.Args{Proc: api.Create, H: w.root, Name: "f"}, api.Exist},
		{"Create", api.Args{Proc: api.Create, H: w.root, Name: "d"}, api.Exist},
		{"Create", api.Args{Proc: api.Create, H: w.root, Name: "new"}, api.NoSpace},
		{"Mkdir", api.Args{Proc: api.Mkdir, H: w.stale, Name: "/"}, api.Stale},
		{"Mkdir", api.Args{Proc: api.Mkdir, H: w.f, Name: "/"}, api.NotDir},
		{"Mkdir", api.Args{Proc: api.Mkdir, H: w.root, Name: "."}, api.BadName},
		{"Mkdir", api.Args{Proc: api.Mkdir, H: w.root, Name: "f"}, api.Exist},
		{"Mkdir", api.Args{Proc: api.Mkdir, H: w.root, Name: "new"}, api.NoSpace},
		{"Remove", api.Args{Proc: api.Remove, H: w.stale, Name: "/"}, api.Stale},
		{"Remove", api.Args{Proc: api.Remove, H: w.f, Name: "/"}, api.NotDir},
		{"Remove", api.Args{Proc: api.Remove, H: w.root, Name: ".."}, api.BadName},
		{"Remove", api.Args{Proc: api.Remove, H: w.root, Name: "x"}, api.NoEnt},
		{"Remove", api.Args{Proc: api.Remove, H: w.root, Name: "e"}, api.IsDir},
		{"Rmdir", api.Args{Proc: api.Rmdir, H: w.stale, Name: "/"}, api.Stale},
		{"Rmdir", api.Args{Proc: api.Rmdir, H: w.f, Name: "/"}, api.NotDir},
		{"Rmdir", api.Args{Proc: api.Rmdir, H: w.y, Name: ".."}, api.BadName},
		{"Rmdir", api.Args{Proc: api.Rmdir, H: w.root, Name: "x"}, api.NoEnt},
		{"Rmdir", api.Args{Proc: api.Rmdir, H: w.root, Name: "f"}, api.NotDir},
		{"Rmdir", api.Args{Proc: api.Rmdir, H: w.root, Name: "d"}, api.NotEmpty},
		{"Readdir", api.Args{Proc: api.Readdir, H: w.stale, Off: 9}, api.Stale},
		{"Readdir", api.Args{Proc: api.Readdir, H: w.f, Off: 9}, api.NotDir},
		{"Readdir", api.Args{Proc: api.Readdir, H: w.root, Off: 4, Count: 1}, api.BadCookie},
		{"Readdir", api.Args{Proc: api.Readdir, H: w.root, Off: math.MaxInt}, api.BadCookie},
	} {
		was, used, nodes := w.print(w.root), w.Used(), w.Nodes()
		if r := w.Do(c.a); !same(r, api.Res{Errno: c.e}) {
			t.Errorf("%s %+v: %+v", c.name, c.a.Name, r)
		}
		if w.print(w.root) != was || w.Used() != used || w.Nodes() != nodes {
			t.Error(c.name, "changes something")
		}
	}
}

// P13.2: the errors of Rename, in their row.
func TestRenameErrors(t *testing.T) {
	w := grow(t, 64, 100)
	r := func(h api.Handle, a string, h2 api.Handle, b string) api.Args {
		return api.Args{Proc: api.Rename, H: h, Name: a, H2: h2, Name2: b}
	}
	for i, c := range []struct {
		a api.Args
		e api.Errno
	}{
		{r(w.stale, "/", w.stale, "/"), api.Stale},
		{r(w.f, "/", w.stale, "/"), api.NotDir},
		{r(w.root, "/", w.stale, "/"), api.Stale},
		{r(w.root, "/", w.f, "/"), api.NotDir},
		{r(w.root, "", w.root, "new"), api.BadName},
		{r(w.root, "..", w.root, "new"), api.BadName},
		{r(w.root, "f", w.root, ".."), api.BadName},
		{r(w.root, "f", w.root, ""), api.BadName},
		{r(w.root, "none", w.root, "/"), api.BadName},
		{r(w.root, "none", w.root, "f"), api.NoEnt},
		{r(w.root, "none", w.root, "none"), api.NoEnt},
		{r(w.root, "d", w.d, "new"), api.BadName},
		{r(w.root, "d", w.d, "x"), api.BadName},
		{r(w.root, "d", w.y, "new"), api.BadName},
		{r(w.root, "d", w.d, "y"), api.BadName},
		{r(w.root, "d", w.root, "f"), api.NotDir},
		{r(w.d, "y", w.root, "f"), api.NotDir},
		{r(w.root, "f", w.root, "e"), api.IsDir},
		{r(w.root, "f", w.root, "d"), api.IsDir},
		{r(w.root, "e", w.root, "d"), api.NotEmpty},
		{r(w.d, "y", w.root, "d"), api.NotEmpty},
	} {
		was := w.print(w.root)
		if got := w.Do(c.a); !same(got, api.Res{Errno: c.e}) || w.print(w.root) != was {
			t.Error(i, c.a, got)
		}
	}
}

// P13.2: what Rename does.
func TestRename(t *testing.T) {
	for _, c := range []struct {
		name        string
		a           func(w *tree) api.Args
		gone        func(w *tree) api.Handle // none, if zero
		at          func(w *tree) api.Handle
		moved       func(w *tree) api.Handle
		nodes, used int
	}{
		{"one entry: nothing", func(w *tree) api.Args { return api.Args{H: w.root, Name: "f", H2: w.root, Name2: "f"} }, nil,
			func(w *tree) api.Handle { return w.root }, func(w *tree) api.Handle { return w.f }, 6, 8},
		{"one entry, a directory that is not empty", func(w *tree) api.Args { return api.Args{H: w.root, Name: "d", H2: w.root, Name2: "d"} }, nil,
			func(w *tree) api.Handle { return w.root }, func(w *tree) api.Handle { return w.d }, 6, 8},
		{"another name", func(w *tree) api.Args { return api.Args{H: w.root, Name: "f", H2: w.root, Name2: "a"} }, nil,
			func(w *tree) api.Handle { return w.root }, func(w *tree) api.Handle { return w.f }, 6, 8},
		{"a directory into another one", func(w *tree) api.Args { return api.Args{H: w.root, Name: "d", H2: w.e, Name2: "d"} }, nil,
			func(w *tree) api.Handle { return w.e }, func(w *tree) api.Handle { return w.d }, 6, 8},
		{"up", func(w *tree) api.Args { return api.Args{H: w.d, Name: "y", H2: w.root, Name2: "z"} }, nil,
			func(w *tree) api.Handle { return w.root }, func(w *tree) api.Handle { return w.y }, 6, 8},
		{"a file onto a file", func(w *tree) api.Args { return api.Args{H: w.d, Name: "x", H2: w.root, Name2: "f"} }, func(w *tree) api.Handle { return w.f },
			func(w *tree) api.Handle { return w.root }, func(w *tree) api.Handle { return w.x }, 5, 3},
		{"a directory onto an empty one", func(w *tree) api.Args { return api.Args{H: w.root, Name: "d", H2: w.root, Name2: "e"} }, func(w *tree) api.Handle { return w.e },
			func(w *tree) api.Handle { return w.root }, func(w *tree) api.Handle { return w.d }, 5, 8},
		{"an empty directory onto an empty one", func(w *tree) api.Args { return api.Args{H: w.root, Name: "e", H2: w.d, Name2: "y"} }, func(w *tree) api.Handle { return w.y },
			func(w *tree) api.Handle { return w.d }, func(w *tree) api.Handle { return w.e }, 5, 8},
	} {
		w := grow(t, 64, 100)
		a := c.a(w)
		a.Proc = api.Rename
		if r := w.Do(a); !same(r, api.Res{}) {
			t.Errorf("%s: %+v", c.name, r)
		}
		if c.gone != nil && w.Do(api.Args{Proc: api.Getattr, H: c.gone(w)}).Errno != api.Stale {
			t.Errorf("%s: the other node is there yet", c.name)
		}
		if r := w.Do(api.Args{Proc: api.Lookup, H: c.at(w), Name: a.Name2}); r.Attr.Handle != c.moved(w) {
			t.Errorf("%s: %+v", c.name, r)
		}
		moved := w.Do(api.Args{Proc: api.Getattr, H: c.moved(w)})
		if r := w.Do(api.Args{Proc: api.Lookup, H: c.moved(w), Name: ".."}); moved.Attr.Kind == api.Dir && r.Attr.Handle != c.at(w) {
			t.Errorf("%s: in %+v", c.name, r)
		}
		if r := w.Do(api.Args{Proc: api.Lookup, H: a.H, Name: a.Name}); (r.Errno == api.OK) != (a.H == a.H2 && a.Name == a.Name2) {
			t.Errorf("%s: where it was: %+v", c.name, r)
		}
		if w.Nodes() != c.nodes || w.Used() != c.used {
			t.Error(c.name, w.Nodes(), w.Used())
		}
	}
}

// P13.1, P13.2: all room may be used, and no more; what is gone makes room.
func TestRoom(t *testing.T) {
	w := grow(t, 64, 20)
	if w.Used() != 8 || w.Nodes() != 6 {
		t.Error(w.Used(), w.Nodes())
	}
	for _, c := range []struct {
		a    api.Args
		e    api.Errno
		used int
	}{
		{api.Args{Proc: api.Write, H: w.f, Off: 15, Data: []byte("ab")}, api.OK, 20},
		{api.Args{Proc: api.Write, H: w.x, Off: 0, Data: []byte("abc")}, api.OK, 20},
		{api.Args{Proc: api.Write, H: w.x, Off: 0, Data: []byte("abcd")}, api.NoSpace, 20},
		{api.Args{Proc: api.Setsize, H: w.x, Size: 4}, api.NoSpace, 20},
		{api.Args{Proc: api.Setsize, H: w.x, Size: 3}, api.OK, 20},
		{api.Args{Proc: api.Setsize, H: w.f, Size: 16}, api.OK, 19},
		{api.Args{Proc: api.Setsize, H: w.x, Size: 4}, api.OK, 20},
		{api.Args{Proc: api.Remove, H: w.root, Name: "f"}, api.OK, 4},
		{api.Args{Proc: api.Setsize, H: w.x, Size: 21}, api.NoSpace, 4},
		{api.Args{Proc: api.Setsize, H: w.x, Size: 20}, api.OK, 20},
	} {
		if r := w.Do(c.a); r.Errno != c.e || w.Used() != c.used {
			t.Error(c.a, r.Errno, w.Used())
		}
	}
	f, _ := New(2, 10)
	if r := f.Do(api.Args{Proc: api.Create, H: f.Root(), Name: "a"}); r.Errno != api.OK {
		t.Error(r)
	}
	if r := f.Do(api.Args{Proc: api.Create, H: f.Root(), Name: "b"}); !same(r, api.Res{Errno: api.NoSpace}) || f.Nodes() != 2 {
		t.Error(r)
	}
}

// R4: data are not kept as they were handed in, and are told in new memory.
func TestNewMemory(t *testing.T) {
	w := grow(t, 64, 100)
	data := []byte("abc")
	w.Do(api.Args{Proc: api.Write, H: w.f, Data: data})
	data[0] = 'x'
	r := w.Do(api.Args{Proc: api.Read, H: w.f, Count: 3})
	r.Data[1] = 'y'
	l := w.Do(api.Args{Proc: api.Readdir, H: w.root, Count: 3})
	l.Entries[0].Name = "z"
	if r := w.Do(api.Args{Proc: api.Read, H: w.f, Count: 3}); string(r.Data) != "abc" || w.Do(api.Args{Proc: api.Lookup, H: w.root, Name: "d"}).Errno != api.OK {
		t.Error(r)
	}
}
