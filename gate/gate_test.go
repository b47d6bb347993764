package gate

import (
	"fmt"
	"math"
	"slices"
	"strings"
	"testing"

	"truchman/api"
	"truchman/codes"
	"truchman/fsys"
	"truchman/stat"
	"truchman/tell"
)

// rig is a gate over a file system, and what was asked of it; answers of a kind may be others than the file system's.
type rig struct {
	t     *testing.T
	fs    *fsys.FS
	g     *Gate
	asked []api.Args
	other map[int]func(a api.Args, r api.Res) api.Res
}

func start(t *testing.T) *rig {
	t.Helper()
	fs, e := fsys.New(64, 10000)
	if e != api.OK {
		t.Fatal(e)
	}
	w := &rig{t: t, fs: fs, other: map[int]func(api.Args, api.Res) api.Res{}}
	w.g = New(func(a api.Args) api.Res {
		w.asked = append(w.asked, a)
		r := fs.Do(a)
		if do := w.other[a.Proc]; do != nil {
			r = do(a, r)
		}
		return r
	}, fs.Root())
	return w
}

// fails makes a procedure tell an error.
func (w *rig) fails(proc int, e api.Errno) {
	w.other[proc] = func(api.Args, api.Res) api.Res { return api.Res{Errno: e} }
}

// do does a request of tag 9, whose reply is to be of its type and tag, and forgets what was asked ahead of it.
func (w *rig) do(a api.Ask) api.Tell {
	w.t.Helper()
	w.asked = nil
	a.Tag = 9
	x := w.g.Do(a)
	if x.Tag != 9 || x.Type != api.Rerror && x.Type != a.Type+1 || x.Type == api.Rerror && !tell.Same(x, tell.Error(9, x.Code)) || !tell.May(x) {
		w.t.Errorf("%+v: %+v", a, x)
	}
	if b, _ := tell.Write(x); len(b) > w.g.Msize() {
		w.t.Errorf("%+v: %d bytes", a, len(b))
	}
	return x
}

// ok does a request that is not to be refused.
func (w *rig) ok(a api.Ask) api.Tell {
	w.t.Helper()
	x := w.do(a)
	if x.Type == api.Rerror {
		w.t.Fatalf("%+v: %s", a, codes.Text(codes.FromCode(x.Code)))
	}
	return x
}

// refused does a request that is to be refused with an error.
func (w *rig) refused(e api.Errno, a api.Ask) {
	w.t.Helper()
	fids := w.g.Fids()
	if x := w.do(a); !tell.Same(x, tell.Error(9, codes.Code(e))) {
		w.t.Errorf("%+v: %+v, not %s", a, x, codes.Text(e))
	}
	if a.Type != api.Tremove && !slices.Equal(w.g.Fids(), fids) {
		w.t.Errorf("%+v: fids %v", a, w.g.Fids())
	}
}

// calls tells whether just these procedures were asked by the last request.
func (w *rig) calls(want ...api.Args) {
	w.t.Helper()
	if fmt.Sprintf("%+v", w.asked) != fmt.Sprintf("%+v", want) {
		w.t.Errorf("asked %+v, not %+v", w.asked, want)
	}
}

// is tells whether the stat of a fid is that of a handle, by a name.
func (w *rig) is(fid int, h api.Handle, name string) {
	w.t.Helper()
	want := stat.Of(name, w.fs.Do(api.Args{Proc: api.Getattr, H: h}).Attr)
	if x := w.ok(api.Ask{Type: api.Tstat, Fid: fid}); x.Stat != want {
		w.t.Errorf("fid %d: %+v, not %+v", fid, x.Stat, want)
	}
}

func (w *rig) made(proc int, in api.Handle, name string) api.Handle {
	w.t.Helper()
	r := w.fs.Do(api.Args{Proc: proc, H: in, Name: name, Mode: 420})
	if r.Errno != api.OK {
		w.t.Fatal(name, r)
	}
	return r.Attr.Handle
}

// tree is a rig with the directory d, in which are the file f, of the bytes hello, and the directory e; fid 0 is the root, fid 1 is d, fid 2 is f, fid 3 is e.
type tree struct {
	*rig
	root, d, f, e api.Handle
}

func grown(t *testing.T) *tree {
	t.Helper()
	w := &tree{rig: start(t)}
	w.root = w.fs.Root()
	w.d = w.made(api.Mkdir, w.root, "d")
	w.f = w.made(api.Create, w.d, "f")
	w.e = w.made(api.Mkdir, w.d, "e")
	w.fs.Do(api.Args{Proc: api.Write, H: w.f, Data: []byte("hello")})
	w.ok(api.Ask{Type: api.Tattach, Fid: 0})
	w.ok(api.Ask{Type: api.Twalk, Fid: 0, Newfid: 1, Names: []string{"d"}})
	w.ok(api.Ask{Type: api.Twalk, Fid: 0, Newfid: 2, Names: []string{"d", "f"}})
	w.ok(api.Ask{Type: api.Twalk, Fid: 0, Newfid: 3, Names: []string{"d", "e"}})
	return w
}

func (w *tree) qid(h api.Handle) api.Qid {
	return api.Qid{Dir: h == w.root || h == w.d || h == w.e, Version: h.Gen, Path: h.Ino}
}

// P21.1: a gate without fids, and types that are none.
func TestNew(t *testing.T) {
	w := start(t)
	if w.g.Msize() != 1024 || len(w.g.Fids()) != 0 {
		t.Error(w.g.Msize(), w.g.Fids())
	}
	for _, kind := range []int{0, -1, 99, 101, 102, 105, 106, 107, 128, 254, math.MaxInt} {
		if x := w.g.Do(api.Ask{Type: kind, Tag: 65535}); !tell.Same(x, tell.Error(65535, codes.Code(api.ErrForm))) {
			t.Errorf("%d: %+v", kind, x)
		}
	}
	for _, kind := range []int{api.Twalk, api.Topen, api.Tcreate, api.Tread, api.Twrite, api.Tclunk, api.Tremove, api.Tstat, api.Twstat} {
		w.refused(api.BadFid, api.Ask{Type: kind, Fid: 5, Size: -1})
		w.calls()
	}
}

// P21.1: Tversion.
func TestVersion(t *testing.T) {
	w := grown(t)
	w.refused(api.ErrForm, api.Ask{Type: api.Tversion, Msize: 127, Name: "9P"})
	if w.g.Msize() != 1024 || len(w.g.Fids()) != 4 {
		t.Error("a refused one changes something")
	}
	for _, c := range []struct {
		msize int
		name  string
		told  int
		as    string
	}{
		{128, "9P", 128, "9P"}, {1023, "9p", 1023, "unknown"}, {1024, "", 1024, "unknown"}, {1025, "9P2000", 1024, "unknown"}, {math.MaxUint32, "9P", 1024, "9P"}, {500, "unknown", 500, "unknown"},
	} {
		w.do(api.Ask{Type: api.Tattach, Fid: 7})
		if x := w.ok(api.Ask{Type: api.Tversion, Msize: c.msize, Name: c.name}); !tell.Same(x, api.Tell{Type: 101, Tag: 9, Msize: c.told, Name: c.as}) {
			t.Errorf("%+v", x)
		}
		w.calls()
		if w.g.Msize() != c.told || len(w.g.Fids()) != 0 {
			t.Error(w.g.Msize(), w.g.Fids())
		}
	}
}

// P21.1: Tattach.
func TestAttach(t *testing.T) {
	w := start(t)
	if x := w.ok(api.Ask{Type: api.Tattach, Fid: math.MaxUint32, Name: "who"}); !tell.Same(x, api.Tell{Type: 105, Tag: 9, Qid: api.Qid{Dir: true, Version: 1, Path: 1}}) {
		t.Errorf("%+v", x)
	}
	w.calls(api.Args{Proc: api.Getattr, H: w.fs.Root()})
	w.refused(api.FidBusy, api.Ask{Type: api.Tattach, Fid: math.MaxUint32})
	w.calls()
	w.fails(api.Getattr, api.NotDir)
	w.refused(api.NotDir, api.Ask{Type: api.Tattach, Fid: 1})
	w.other[api.Getattr] = func(a api.Args, r api.Res) api.Res {
		return api.Res{Attr: api.Attr{Handle: api.Handle{Ino: 8, Gen: 9}, Kind: api.File}}
	}
	if x := w.ok(api.Ask{Type: api.Tattach, Fid: 1}); x.Qid != (api.Qid{Version: 9, Path: 8}) {
		t.Errorf("%+v", x)
	}
	w.other = nil
	w.is(1, w.fs.Root(), "")
	w.refused(api.BadName, api.Ask{Type: api.Twstat, Fid: 1, Size: -1, Name: "x"})
	w.ok(api.Ask{Type: api.Topen, Fid: 1})
	w.ok(api.Ask{Type: api.Tread, Fid: 1, Count: 99})
	w.calls(api.Args{Proc: api.Readdir, H: w.fs.Root(), Count: 64})
	for n := range 14 {
		w.ok(api.Ask{Type: api.Tattach, Fid: 100 + n})
	}
	w.refused(api.ErrFull, api.Ask{Type: api.Tattach, Fid: 200})
	w.calls()
	w.refused(api.FidBusy, api.Ask{Type: api.Tattach, Fid: 100})
}

// P21.1: Twalk, where nothing refuses it.
func TestWalk(t *testing.T) {
	w := grown(t)
	x := w.ok(api.Ask{Type: api.Twalk, Fid: 0, Newfid: 5, Names: []string{"d", "..", "d", "f"}})
	if !tell.Same(x, api.Tell{Type: 111, Tag: 9, Qids: []api.Qid{w.qid(w.d), w.qid(w.root), w.qid(w.d), w.qid(w.f)}}) {
		t.Errorf("%+v", x)
	}
	w.calls(api.Args{Proc: api.Lookup, H: w.root, Name: "d"}, api.Args{Proc: api.Lookup, H: w.d, Name: ".."}, api.Args{Proc: api.Lookup, H: w.root, Name: "d"}, api.Args{Proc: api.Lookup, H: w.d, Name: "f"})
	w.is(5, w.f, "f")
	w.is(0, w.root, "")
	if x := w.ok(api.Ask{Type: api.Twalk, Fid: 5, Newfid: 6}); !tell.Same(x, api.Tell{Type: 111, Tag: 9}) {
		t.Errorf("%+v", x)
	}
	w.calls()
	w.is(6, w.f, "f")
	w.ok(api.Ask{Type: api.Twalk, Fid: 6, Newfid: 6})
	w.is(6, w.f, "f")
	w.ok(api.Ask{Type: api.Twalk, Fid: 3, Newfid: 3, Names: []string{".."}})
	w.is(3, w.d, "")
	w.refused(api.BadName, api.Ask{Type: api.Twstat, Fid: 3, Size: -1, Name: "x"})
	w.ok(api.Ask{Type: api.Twalk, Fid: 3, Newfid: 3, Names: []string{"e"}})
	w.is(3, w.e, "e")
	w.ok(api.Ask{Type: api.Twstat, Fid: 6, Size: -1, Name: "g"})
	w.calls(api.Args{Proc: api.Lookup, H: w.d, Name: "f"}, api.Args{Proc: api.Rename, H: w.d, Name: "f", H2: w.d, Name2: "g"})
	if !slices.Equal(w.g.Fids(), []int{0, 1, 2, 3, 5, 6}) {
		t.Error(w.g.Fids())
	}
}

// P21.1: Twalk, where a step refuses it: the first one, or a later one.
func TestWalkRefused(t *testing.T) {
	w := grown(t)
	for _, c := range []struct {
		names []string
		e     api.Errno
	}{
		{[]string{""}, api.BadName}, {[]string{"."}, api.BadName}, {[]string{"a/b"}, api.BadName}, {[]string{strings.Repeat("x", 33), "d"}, api.BadName}, {[]string{"none", ""}, api.NoEnt},
	} {
		for _, newfid := range []int{0, 5} {
			w.refused(c.e, api.Ask{Type: api.Twalk, Fid: 0, Newfid: newfid, Names: c.names})
		}
	}
	for _, c := range []struct {
		names []string
		qids  []api.Qid
		asked int
	}{
		{[]string{"d", "none"}, []api.Qid{w.qid(w.d)}, 2},
		{[]string{"d", ""}, []api.Qid{w.qid(w.d)}, 1},
		{[]string{"d", "f", "x"}, []api.Qid{w.qid(w.d), w.qid(w.f)}, 3},
		{[]string{"d", "f", ".."}, []api.Qid{w.qid(w.d), w.qid(w.f)}, 3},
		{[]string{"..", "d", "none", "d"}, []api.Qid{w.qid(w.root), w.qid(w.d)}, 3},
	} {
		for _, newfid := range []int{0, 5} {
			if x := w.ok(api.Ask{Type: api.Twalk, Fid: 0, Newfid: newfid, Names: c.names}); !slices.Equal(x.Qids, c.qids) || len(w.asked) != c.asked {
				t.Errorf("%q: %+v, asked %d", c.names, x, len(w.asked))
			}
			w.is(0, w.root, "")
			if slices.Contains(w.g.Fids(), 5) {
				t.Error(c.names, "a new fid")
			}
		}
	}
	w.refused(api.NotDir, api.Ask{Type: api.Twalk, Fid: 2, Newfid: 5, Names: []string{"x"}})
	w.refused(api.FidBusy, api.Ask{Type: api.Twalk, Fid: 0, Newfid: 1, Names: []string{""}})
	w.calls()
	w.refused(api.BadFid, api.Ask{Type: api.Twalk, Fid: 9, Newfid: 1})
	w.ok(api.Ask{Type: api.Topen, Fid: 1})
	w.refused(api.BadMode, api.Ask{Type: api.Twalk, Fid: 1, Newfid: 1})
	w.refused(api.BadMode, api.Ask{Type: api.Twalk, Fid: 1, Newfid: 0})
	for n := range 12 {
		w.ok(api.Ask{Type: api.Twalk, Fid: 0, Newfid: 100 + n})
	}
	w.refused(api.ErrFull, api.Ask{Type: api.Twalk, Fid: 0, Newfid: 5, Names: []string{""}})
	w.refused(api.FidBusy, api.Ask{Type: api.Twalk, Fid: 0, Newfid: 1})
	w.ok(api.Ask{Type: api.Twalk, Fid: 100, Newfid: 100, Names: []string{"d"}})
	w.is(100, w.d, "d")
	w.fails(api.Lookup, api.IO)
	w.refused(api.IO, api.Ask{Type: api.Twalk, Fid: 0, Newfid: 0, Names: []string{"d"}})
}

// P21.1: Topen.
func TestOpen(t *testing.T) {
	w := grown(t)
	for _, c := range []struct {
		mode int
		dir  bool
		e    api.Errno
	}{
		{0, false, 0}, {1, false, 0}, {2, false, 0}, {16, false, 0}, {17, false, 0}, {18, false, 0}, {3, false, api.BadMode}, {19, false, api.BadMode}, {32, false, api.BadMode}, {255, false, api.BadMode},
		{0, true, 0}, {1, true, api.IsDir}, {2, true, api.IsDir}, {16, true, api.IsDir}, {3, true, api.BadMode},
	} {
		h := w.f
		if c.dir {
			h = w.d
		}
		a := api.Ask{Type: api.Topen, Fid: 5, Mode: c.mode}
		w.ok(api.Ask{Type: api.Twalk, Fid: map[bool]int{true: 1, false: 2}[c.dir], Newfid: 5})
		w.fs.Do(api.Args{Proc: api.Write, H: w.f, Data: []byte("hello")})
		asked := []api.Args{{Proc: api.Getattr, H: h}}
		if c.e != api.OK {
			w.refused(c.e, a)
		} else if x := w.ok(a); !tell.Same(x, api.Tell{Type: 113, Tag: 9, Qid: w.qid(h), Iounit: 1000}) {
			t.Errorf("%+v: %+v", c, x)
		} else if c.mode >= 16 {
			asked = append(asked, api.Args{Proc: api.Setsize, H: h})
		}
		w.calls(asked...)
		if size := w.fs.Used(); (size == 0) != (c.e == api.OK && c.mode >= 16) {
			t.Error(c, size)
		}
		if c.e == api.OK {
			w.refused(api.BadMode, a)
			w.refused(api.BadMode, api.Ask{Type: api.Topen, Fid: 5, Mode: 3})
			w.calls()
		}
		w.ok(api.Ask{Type: api.Tclunk, Fid: 5})
	}
	w.fails(api.Setsize, api.IO)
	w.refused(api.IO, api.Ask{Type: api.Topen, Fid: 2, Mode: 17})
	w.ok(api.Ask{Type: api.Topen, Fid: 2, Mode: 1})
	w.fs.Do(api.Args{Proc: api.Rmdir, H: w.d, Name: "e"})
	w.refused(api.Stale, api.Ask{Type: api.Topen, Fid: 3, Mode: 255})
	w.ok(api.Ask{Type: api.Tversion, Msize: 200})
	w.ok(api.Ask{Type: api.Tattach})
	if x := w.ok(api.Ask{Type: api.Topen}); x.Iounit != 176 {
		t.Errorf("%+v", x)
	}
}

// P21.1: Tcreate.
func TestCreate(t *testing.T) {
	w := grown(t)
	dir := api.MDir + 493
	for i, c := range []struct {
		a api.Ask
		e api.Errno
	}{
		{api.Ask{Fid: 9, Perm: -1, Mode: 9}, api.BadFid},
		{api.Ask{Fid: 1, Perm: 512, Mode: 9, Name: ""}, api.BadMode},
		{api.Ask{Fid: 1, Perm: 1 << 30, Name: ""}, api.BadMode},
		{api.Ask{Fid: 1, Perm: 1, Mode: 3, Name: ""}, api.BadMode},
		{api.Ask{Fid: 1, Perm: dir, Mode: 1, Name: ""}, api.IsDir},
		{api.Ask{Fid: 1, Perm: dir, Mode: 16, Name: "x"}, api.IsDir},
		{api.Ask{Fid: 1, Perm: dir, Mode: 3, Name: ""}, api.BadMode},
		{api.Ask{Fid: 1, Perm: 420, Mode: 1, Name: ""}, api.BadName},
		{api.Ask{Fid: 1, Perm: 420, Mode: 1, Name: ".."}, api.BadName},
		{api.Ask{Fid: 1, Perm: dir, Name: "a/b"}, api.BadName},
		{api.Ask{Fid: 2, Perm: dir, Name: "."}, api.BadName},
	} {
		c.a.Type = api.Tcreate
		w.refused(c.e, c.a)
		if len(w.asked) != 0 {
			t.Error(i, w.asked)
		}
	}
	w.refused(api.NotDir, api.Ask{Type: api.Tcreate, Fid: 2, Perm: 420, Name: "x"})
	w.calls(api.Args{Proc: api.Create, H: w.f, Name: "x", Mode: 420})
	w.refused(api.Exist, api.Ask{Type: api.Tcreate, Fid: 1, Perm: dir, Name: "f"})
	w.calls(api.Args{Proc: api.Mkdir, H: w.d, Name: "f", Mode: 493})
	w.is(1, w.d, "d")
	x := w.ok(api.Ask{Type: api.Tcreate, Fid: 1, Perm: 420, Mode: 18, Name: "n"})
	n := api.Handle{Ino: 5, Gen: 1}
	w.calls(api.Args{Proc: api.Create, H: w.d, Name: "n", Mode: 420})
	if !tell.Same(x, api.Tell{Type: 115, Tag: 9, Qid: api.Qid{Version: 1, Path: 5}, Iounit: 1000}) {
		t.Errorf("%+v", x)
	}
	w.is(1, n, "n")
	w.refused(api.BadMode, api.Ask{Type: api.Tcreate, Fid: 1, Perm: 420, Name: "m"})
	w.ok(api.Ask{Type: api.Twrite, Fid: 1, Data: []byte("abc")})
	if x := w.ok(api.Ask{Type: api.Tread, Fid: 1, Off: 1, Count: 9}); string(x.Data) != "bc" {
		t.Errorf("%+v", x)
	}
	w.ok(api.Ask{Type: api.Tremove, Fid: 1})
	w.calls(api.Args{Proc: api.Lookup, H: w.d, Name: "n"}, api.Args{Proc: api.Remove, H: w.d, Name: "n"})
	x = w.ok(api.Ask{Type: api.Tcreate, Fid: 0, Perm: dir, Mode: 0, Name: "k"})
	if !tell.Same(x, api.Tell{Type: 115, Tag: 9, Qid: api.Qid{Dir: true, Version: 2, Path: 5}, Iounit: 1000}) {
		t.Errorf("%+v", x)
	}
	w.is(0, api.Handle{Ino: 5, Gen: 2}, "k")
	if x := w.ok(api.Ask{Type: api.Tread, Fid: 0, Count: 9}); len(x.Data) != 0 {
		t.Errorf("%+v", x)
	}
	w.calls(api.Args{Proc: api.Readdir, H: api.Handle{Ino: 5, Gen: 2}, Count: 64})
	w.ok(api.Ask{Type: api.Tremove, Fid: 0})
	w.calls(api.Args{Proc: api.Lookup, H: w.root, Name: "k"}, api.Args{Proc: api.Rmdir, H: w.root, Name: "k"})
}

// P21.1: of a Tcreate the kind is that of its permissions, whatever the server tells.
func TestCreateKind(t *testing.T) {
	w := grown(t)
	told := func(a api.Args, r api.Res) api.Res {
		r.Attr.Kind = api.Dir + api.File - r.Attr.Kind
		return r
	}
	w.other[api.Create], w.other[api.Mkdir] = told, told
	if x := w.ok(api.Ask{Type: api.Tcreate, Fid: 1, Perm: 1, Name: "n"}); !x.Qid.Dir {
		t.Errorf("%+v", x)
	}
	w.ok(api.Ask{Type: api.Tread, Fid: 1, Count: 5})
	w.calls(api.Args{Proc: api.Read, H: api.Handle{Ino: 5, Gen: 1}, Count: 5})
	if x := w.ok(api.Ask{Type: api.Tcreate, Fid: 0, Perm: api.MDir, Name: "n"}); x.Qid.Dir {
		t.Errorf("%+v", x)
	}
	w.ok(api.Ask{Type: api.Tread, Fid: 0, Count: 5})
	w.calls(api.Args{Proc: api.Readdir, H: api.Handle{Ino: 6, Gen: 1}, Count: 64})
}

// P21.1: Tread and Twrite of a file.
func TestReadWrite(t *testing.T) {
	w := grown(t)
	for mode, can := range map[int][2]bool{0: {true, false}, 1: {false, true}, 2: {true, true}, 16: {true, false}, 17: {false, true}, 18: {true, true}} {
		w.refused(api.BadMode, api.Ask{Type: api.Tread, Fid: 2, Count: 5})
		w.refused(api.BadMode, api.Ask{Type: api.Twrite, Fid: 2, Data: []byte("x")})
		w.calls()
		w.ok(api.Ask{Type: api.Twalk, Fid: 2, Newfid: 5})
		w.ok(api.Ask{Type: api.Topen, Fid: 5, Mode: mode})
		w.fs.Do(api.Args{Proc: api.Write, H: w.f, Data: []byte("hello")})
		read, write := api.Ask{Type: api.Tread, Fid: 5, Off: 1, Count: 3}, api.Ask{Type: api.Twrite, Fid: 5, Off: 2, Data: []byte("LL")}
		if can[0] {
			if x := w.ok(read); !tell.Same(x, api.Tell{Type: 117, Tag: 9, Data: []byte("ell")}) {
				t.Errorf("%+v", x)
			}
			w.calls(api.Args{Proc: api.Read, H: w.f, Off: 1, Count: 3})
		} else {
			w.refused(api.BadMode, read)
		}
		if can[1] {
			if x := w.ok(write); !tell.Same(x, api.Tell{Type: 119, Tag: 9, Count: 2}) {
				t.Errorf("%+v", x)
			}
			w.calls(api.Args{Proc: api.Write, H: w.f, Off: 2, Data: []byte("LL")})
		} else {
			w.refused(api.BadMode, write)
		}
		w.ok(api.Ask{Type: api.Tclunk, Fid: 5})
	}
	w.ok(api.Ask{Type: api.Topen, Fid: 2, Mode: 2})
	w.refused(api.TooBig, api.Ask{Type: api.Twrite, Fid: 2, Off: 1 << 62, Data: []byte("x")})
	w.ok(api.Ask{Type: api.Twrite, Fid: 2, Off: 1 << 62})
	if x := w.ok(api.Ask{Type: api.Tread, Fid: 2, Off: 1 << 62, Count: math.MaxUint32}); len(x.Data) != 0 {
		t.Errorf("%+v", x)
	}
	w.calls(api.Args{Proc: api.Read, H: w.f, Off: 1 << 62, Count: 1000})
	if x := w.ok(api.Ask{Type: api.Twrite, Fid: 2, Data: make([]byte, 1024)}); x.Count != 1000 || len(w.asked[0].Data) != 1000 {
		t.Errorf("%+v", x)
	}
	w.other[api.Write] = func(a api.Args, r api.Res) api.Res { return api.Res{Count: 7} }
	if x := w.ok(api.Ask{Type: api.Twrite, Fid: 2, Data: []byte("x")}); x.Count != 7 {
		t.Errorf("%+v", x)
	}
	w.other[api.Read] = func(a api.Args, r api.Res) api.Res { return api.Res{Data: []byte("all of it"), Count: 1} }
	if x := w.ok(api.Ask{Type: api.Tread, Fid: 2, Count: 2}); string(x.Data) != "all of it" {
		t.Errorf("%+v", x)
	}
	w.fails(api.Read, api.IO)
	w.refused(api.IO, api.Ask{Type: api.Tread, Fid: 2, Count: 2})
}

// P21.2: the room of a size bounds what is read, written and told.
func TestRoom(t *testing.T) {
	w := start(t)
	w.ok(api.Ask{Type: api.Tversion, Msize: 128})
	w.ok(api.Ask{Type: api.Tattach})
	if x := w.ok(api.Ask{Type: api.Tcreate, Perm: 420, Mode: 2, Name: "f"}); x.Iounit != 104 {
		t.Errorf("%+v", x)
	}
	if x := w.ok(api.Ask{Type: api.Twrite, Data: make([]byte, 105)}); x.Count != 104 {
		t.Errorf("%+v", x)
	}
	if x := w.ok(api.Ask{Type: api.Twrite, Off: 104, Data: make([]byte, 20)}); x.Count != 20 {
		t.Errorf("%+v", x)
	}
	if x := w.ok(api.Ask{Type: api.Tread, Count: 105}); len(x.Data) != 104 {
		t.Error(len(x.Data))
	}
	if x := w.ok(api.Ask{Type: api.Tread, Count: 103}); len(x.Data) != 103 {
		t.Error(len(x.Data))
	}
	for _, s := range []string{"a", "b", "c"} {
		w.made(api.Create, w.fs.Root(), strings.Repeat(s, 32))
	}
	w.ok(api.Ask{Type: api.Tattach, Fid: 1})
	w.ok(api.Ask{Type: api.Twalk, Fid: 1, Newfid: 2, Names: slices.Repeat([]string{".."}, 8)})
	w.ok(api.Ask{Type: api.Topen, Fid: 1})
	if x := w.ok(api.Ask{Type: api.Tread, Fid: 1, Count: 1000}); len(x.Data) != 84 {
		t.Error(len(x.Data))
	}
	if x := w.ok(api.Ask{Type: api.Tread, Fid: 1, Off: 84, Count: 1000}); len(x.Data) != 53 {
		t.Error(len(x.Data))
	}
	w.ok(api.Ask{Type: api.Twalk, Fid: 2, Newfid: 2, Names: []string{strings.Repeat("a", 32)}})
	w.ok(api.Ask{Type: api.Tstat, Fid: 2})
}

// P21.1: Tread of a directory goes on from where it was read to, or from its begin.
func TestReadDirectory(t *testing.T) {
	w := grown(t)
	w.ok(api.Ask{Type: api.Topen, Fid: 1})
	read := func(off, count int) string {
		t.Helper()
		l, e := stat.Entries(w.ok(api.Ask{Type: api.Tread, Fid: 1, Off: off, Count: count}).Data)
		if e != api.OK {
			t.Error(e)
		}
		s := ""
		for _, x := range l {
			s += x.Name + " "
		}
		return s
	}
	for _, off := range []int{1, 11, 1 << 62} {
		w.refused(api.BadCookie, api.Ask{Type: api.Tread, Fid: 1, Off: off, Count: 1000})
		w.calls()
	}
	w.made(api.Create, w.d, "g")
	for _, c := range []struct {
		off, count, from int
		want             string
	}{
		{0, 1000, 0, "e f g "}, {33, 1000, 3, ""}, {33, 0, 3, ""}, {0, 11, 0, "e "}, {11, 21, 1, "f "}, {22, 10, 2, ""}, {22, 11, 2, "g "}, {33, 9, 3, ""},
		{0, 0, 0, ""}, {0, 32, 0, "e f "}, {22, 1000, 2, "g "}, {0, math.MaxUint32, 0, "e f g "},
	} {
		if got := read(c.off, c.count); got != c.want {
			t.Error(c, got)
		}
		w.calls(api.Args{Proc: api.Readdir, H: w.d, Off: c.from, Count: 64})
	}
	for _, off := range []int{1, 11, 22, 32, 34, 1 << 62} {
		w.refused(api.BadCookie, api.Ask{Type: api.Tread, Fid: 1, Off: off, Count: 1000})
		w.calls()
	}
	read(0, 22)
	w.fails(api.Readdir, api.IO)
	w.refused(api.IO, api.Ask{Type: api.Tread, Fid: 1, Off: 0, Count: 1000})
	w.refused(api.IO, api.Ask{Type: api.Tread, Fid: 1, Off: 22, Count: 1000})
	w.other = nil
	w.refused(api.BadCookie, api.Ask{Type: api.Tread, Fid: 1, Off: 11, Count: 1000})
	if got := read(22, 1000); got != "g " {
		t.Error("a refused one changes the place", got)
	}
	w.fs.Do(api.Args{Proc: api.Remove, H: w.d, Name: "g"})
	w.refused(api.BadCookie, api.Ask{Type: api.Tread, Fid: 1, Off: 33, Count: 1000})
	w.calls(api.Args{Proc: api.Readdir, H: w.d, Off: 3, Count: 64})
	if got := read(0, 1000); got != "e f " {
		t.Error(got)
	}
	w.refused(api.BadMode, api.Ask{Type: api.Twrite, Fid: 1})
}

// P21.1: Tclunk and Tflush.
func TestClunkFlush(t *testing.T) {
	w := grown(t)
	if x := w.ok(api.Ask{Type: api.Tclunk, Fid: 2}); !tell.Same(x, api.Tell{Type: 121, Tag: 9}) {
		t.Errorf("%+v", x)
	}
	w.refused(api.BadFid, api.Ask{Type: api.Tclunk, Fid: 2})
	if x := w.ok(api.Ask{Type: api.Tflush, Oldtag: 4}); !tell.Same(x, api.Tell{Type: 109, Tag: 9}) {
		t.Errorf("%+v", x)
	}
	w.calls()
	if !slices.Equal(w.g.Fids(), []int{0, 1, 3}) || w.fs.Used() != 5 {
		t.Error(w.g.Fids())
	}
}

// P21.1: Tremove, whose fid stands for none then, whatever refuses it.
func TestRemove(t *testing.T) {
	w := grown(t)
	gone := func(e api.Errno, fid int, asked ...api.Args) {
		t.Helper()
		a := api.Ask{Type: api.Tremove, Fid: fid}
		if e != api.OK {
			w.refused(e, a)
		} else if x := w.ok(a); !tell.Same(x, api.Tell{Type: 123, Tag: 9}) {
			t.Errorf("%+v", x)
		}
		w.calls(asked...)
		w.refused(api.BadFid, a)
	}
	lookup := func(in api.Handle, s string) api.Args { return api.Args{Proc: api.Lookup, H: in, Name: s} }
	gone(api.BadName, 0)
	w.ok(api.Ask{Type: api.Twalk, Fid: 3, Newfid: 5, Names: []string{".."}})
	w.ok(api.Ask{Type: api.Twalk, Fid: 2, Newfid: 6})
	w.ok(api.Ask{Type: api.Twalk, Fid: 2, Newfid: 7})
	w.ok(api.Ask{Type: api.Twalk, Fid: 2, Newfid: 8})
	w.ok(api.Ask{Type: api.Twalk, Fid: 3, Newfid: 10})
	gone(api.BadName, 5)
	gone(api.NotEmpty, 1, lookup(w.root, "d"), api.Args{Proc: api.Rmdir, H: w.root, Name: "d"})
	w.ok(api.Ask{Type: api.Topen, Fid: 2})
	gone(api.OK, 2, lookup(w.d, "f"), api.Args{Proc: api.Remove, H: w.d, Name: "f"})
	gone(api.NoEnt, 6, lookup(w.d, "f"))
	w.made(api.Create, w.d, "f")
	gone(api.Stale, 7, lookup(w.d, "f"))
	gone(api.OK, 3, lookup(w.d, "e"), api.Args{Proc: api.Rmdir, H: w.d, Name: "e"})
	w.fs.Do(api.Args{Proc: api.Remove, H: w.d, Name: "f"})
	w.fs.Do(api.Args{Proc: api.Rmdir, H: w.root, Name: "d"})
	gone(api.Stale, 8, lookup(w.d, "f"))
	gone(api.Stale, 10, lookup(w.d, "e"))
	if len(w.g.Fids()) != 0 || w.fs.Nodes() != 1 {
		t.Error(w.g.Fids(), w.fs.Nodes())
	}
}

// P21.1: Tstat.
func TestStat(t *testing.T) {
	w := grown(t)
	x := w.ok(api.Ask{Type: api.Tstat, Fid: 1})
	if !tell.Same(x, api.Tell{Type: 125, Tag: 9, Stat: api.Stat{Qid: w.qid(w.d), Mode: api.MDir + 420, Name: "d"}}) {
		t.Errorf("%+v", x)
	}
	w.calls(api.Args{Proc: api.Getattr, H: w.d})
	x = w.ok(api.Ask{Type: api.Tstat, Fid: 2})
	if !tell.Same(x, api.Tell{Type: 125, Tag: 9, Stat: api.Stat{Qid: w.qid(w.f), Mode: 420, Size: 5, Name: "f"}}) {
		t.Errorf("%+v", x)
	}
	w.fs.Do(api.Args{Proc: api.Remove, H: w.d, Name: "f"})
	w.refused(api.Stale, api.Ask{Type: api.Tstat, Fid: 2})
}

// P21.1: Twstat renames, then sets the size; what is done ahead of an error stays.
func TestWstat(t *testing.T) {
	w := grown(t)
	lookup := api.Args{Proc: api.Lookup, H: w.d, Name: "f"}
	if x := w.ok(api.Ask{Type: api.Twstat, Fid: 2, Size: -1}); !tell.Same(x, api.Tell{Type: 127, Tag: 9}) {
		t.Errorf("%+v", x)
	}
	w.calls()
	w.ok(api.Ask{Type: api.Twstat, Fid: 2, Size: 0})
	w.calls(api.Args{Proc: api.Setsize, H: w.f})
	for _, s := range []string{".", "..", "a/b", strings.Repeat("x", 33)} {
		w.refused(api.BadName, api.Ask{Type: api.Twstat, Fid: 2, Size: 3, Name: s})
		w.calls()
	}
	w.refused(api.BadName, api.Ask{Type: api.Twstat, Fid: 0, Size: 3, Name: "x"})
	w.calls()
	w.refused(api.IsDir, api.Ask{Type: api.Twstat, Fid: 0, Size: 0})
	w.refused(api.IsDir, api.Ask{Type: api.Twstat, Fid: 2, Size: 3, Name: "e"})
	w.calls(lookup, api.Args{Proc: api.Rename, H: w.d, Name: "f", H2: w.d, Name2: "e"})
	w.is(2, w.f, "f")
	w.ok(api.Ask{Type: api.Twalk, Fid: 2, Newfid: 5})
	w.ok(api.Ask{Type: api.Twalk, Fid: 2, Newfid: 6})
	w.refused(api.TooBig, api.Ask{Type: api.Twstat, Fid: 2, Size: 2049, Name: "g"})
	w.calls(lookup, api.Args{Proc: api.Rename, H: w.d, Name: "f", H2: w.d, Name2: "g"}, api.Args{Proc: api.Setsize, H: w.f, Size: 2049})
	w.is(2, w.f, "g")
	w.is(5, w.f, "f")
	w.refused(api.NoEnt, api.Ask{Type: api.Twstat, Fid: 5, Size: 3, Name: "h"})
	w.calls(lookup)
	w.made(api.Create, w.d, "f")
	w.refused(api.Stale, api.Ask{Type: api.Twstat, Fid: 5, Size: 3, Name: "h"})
	w.calls(lookup)
	w.ok(api.Ask{Type: api.Topen, Fid: 2, Mode: 0})
	w.ok(api.Ask{Type: api.Twstat, Fid: 2, Size: 4, Name: "f"})
	w.is(2, w.f, "f")
	if r := w.fs.Do(api.Args{Proc: api.Lookup, H: w.d, Name: "f"}); r.Attr.Handle != w.f || r.Attr.Size != 4 {
		t.Error(r)
	}
	if x := w.ok(api.Ask{Type: api.Tread, Fid: 2, Count: 9}); len(x.Data) != 4 {
		t.Error("not open any more", x)
	}
	w.ok(api.Ask{Type: api.Twstat, Fid: 1, Size: -1, Name: "dd"})
	w.is(1, w.d, "dd")
	w.ok(api.Ask{Type: api.Twstat, Fid: 6, Size: -1, Name: "ff"})
	w.is(6, w.f, "ff")
}

// R4: what is handed to the server, and told of it, is new memory.
func TestNewMemory(t *testing.T) {
	w := grown(t)
	kept := []byte("kept")
	w.other[api.Read] = func(a api.Args, r api.Res) api.Res { return api.Res{Data: kept} }
	w.other[api.Write] = func(a api.Args, r api.Res) api.Res { a.Data[0] = 'x'; return r }
	w.ok(api.Ask{Type: api.Topen, Fid: 2, Mode: 2})
	w.ok(api.Ask{Type: api.Tread, Fid: 2}).Data[0] = 'y'
	data := []byte("abc")
	w.ok(api.Ask{Type: api.Twrite, Fid: 2, Data: data})
	clear(w.g.Fids())
	if string(kept) != "kept" || string(data) != "abc" || !slices.Equal(w.g.Fids(), []int{0, 1, 2, 3}) {
		t.Error(kept, data, w.g.Fids())
	}
}
