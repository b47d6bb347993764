package answers

import (
	"bytes"
	"math"
	"math/rand"
	"strings"
	"testing"

	"truchman/api"
	"truchman/calls"
	"truchman/codes"
)

const (
	top = math.MaxUint32
	ok  = "\x00\x00\x00\x00"
)

func word(n int) string {
	return string([]byte{byte(n >> 24), byte(n >> 16), byte(n >> 8), byte(n)})
}

func words(l ...int) string {
	s := ""
	for _, n := range l {
		s += word(n)
	}
	return s
}

var (
	file   = api.Attr{Handle: api.Handle{Ino: 1, Gen: 2}, Kind: api.File, Mode: 511, Size: 65536}
	folder = api.Attr{Handle: api.Handle{Ino: top, Gen: top}, Kind: api.Dir}
)

func entriesOf(n int) []api.Entry {
	var l []api.Entry
	for range n {
		l = append(l, api.Entry{Name: strings.Repeat("x", 32), Handle: api.Handle{Ino: 7, Gen: 8}})
	}
	return l
}

// laid is what may be of procedures, and its bytes.
var laid = []struct {
	procs []int
	r     api.Res
	b     string
}{
	{[]int{api.Getattr, api.Setsize, api.Lookup, api.Create, api.Mkdir}, api.Res{Attr: file}, ok + words(1, 2, 2, 511, 65536)},
	{[]int{api.Getattr, api.Setsize, api.Lookup, api.Create, api.Mkdir}, api.Res{Attr: folder}, ok + words(top, top, 1, 0, 0)},
	{[]int{api.Read}, api.Res{}, ok + words(0, 0)},
	{[]int{api.Read}, api.Res{Data: []byte("ab"), Count: 2, EOF: true}, ok + words(2) + "ab\x00\x00" + words(1)},
	{[]int{api.Read}, api.Res{Data: make([]byte, 2048), Count: 2048}, ok + words(2048) + string(make([]byte, 2048)) + words(0)},
	{[]int{api.Write}, api.Res{Count: top, Attr: file}, ok + words(top, 1, 2, 2, 511, 65536)},
	{[]int{api.Write}, api.Res{Attr: folder}, ok + words(0, top, top, 1, 0, 0)},
	{[]int{api.Remove, api.Rmdir, api.Rename}, api.Res{}, ok},
	{[]int{api.Readdir}, api.Res{EOF: true}, ok + words(0, 1)},
	{[]int{api.Readdir}, api.Res{}, ok + words(0, 0)},
	{[]int{api.Readdir}, api.Res{Entries: []api.Entry{{Name: "a", Handle: api.Handle{Ino: 1, Gen: 2}}, {Name: "a", Handle: api.Handle{Ino: top}}}}, ok + words(2, 1) + "a\x00\x00\x00" + words(1, 2, 1) + "a\x00\x00\x00" + words(top, 0, 0)},
	{[]int{api.Readdir}, api.Res{Entries: entriesOf(64), EOF: true}, ok + words(64) + strings.Repeat(words(32)+strings.Repeat("x", 32)+words(7, 8), 64) + words(1)},
	{calls.Procs(), api.Res{Errno: api.NoEnt}, words(2)},
	{calls.Procs(), api.Res{Errno: api.IO}, words(5)},
	{calls.Procs(), api.Res{Errno: api.ErrForm}, words(10107)},
}

// P15.1, P15.3: what may be is laid, and read as it was.
func TestLaid(t *testing.T) {
	for _, c := range laid {
		for _, proc := range c.procs {
			if !May(proc, c.r) {
				t.Errorf("%d %+v may not be", proc, c.r)
			}
			if b, e := Write(proc, c.r); string(b) != c.b || e != api.OK {
				t.Errorf("%d %+v: %q %d", proc, c.r, b, e)
			}
			if r, e := Read(proc, []byte(c.b)); !Same(r, c.r) || e != api.OK {
				t.Errorf("%d %q: %+v %d", proc, c.b, r, e)
			}
		}
	}
	for _, e := range codes.All()[1:] {
		for _, proc := range calls.Procs() {
			b, f := Write(proc, api.Res{Errno: e})
			if r, g := Read(proc, b); string(b) != word(int(codes.Status(e))) || f != api.OK || !Same(r, api.Res{Errno: e}) || g != api.OK {
				t.Error(proc, e, b, f, r, g)
			}
		}
	}
}

// P15.1: what may not be is not laid.
func TestMay(t *testing.T) {
	with := func(do func(a *api.Attr)) api.Attr {
		a := file
		do(&a)
		return a
	}
	attrs := []api.Attr{
		{},
		with(func(a *api.Attr) { a.Ino = -1 }), with(func(a *api.Attr) { a.Ino = top + 1 }),
		with(func(a *api.Attr) { a.Gen = -1 }), with(func(a *api.Attr) { a.Gen = top + 1 }),
		with(func(a *api.Attr) { a.Kind = 0 }), with(func(a *api.Attr) { a.Kind = 3 }), with(func(a *api.Attr) { a.Kind = -1 }),
		with(func(a *api.Attr) { a.Mode = -1 }), with(func(a *api.Attr) { a.Mode = 512 }),
		with(func(a *api.Attr) { a.Size = -1 }), with(func(a *api.Attr) { a.Size = 65537 }),
	}
	entry := func(s string, ino, gen int) []api.Entry {
		return []api.Entry{{Name: "a"}, {Name: s, Handle: api.Handle{Ino: ino, Gen: gen}}}
	}
	type bad struct {
		proc int
		r    api.Res
	}
	var l []bad
	for _, a := range attrs {
		for _, proc := range []int{api.Getattr, api.Setsize, api.Lookup, api.Create, api.Mkdir, api.Write} {
			l = append(l, bad{proc, api.Res{Attr: a}})
		}
	}
	for _, proc := range calls.Procs() {
		good := map[int]api.Attr{api.Getattr: file, api.Setsize: file, api.Lookup: file, api.Create: file, api.Mkdir: file, api.Write: file}[proc]
		for _, e := range []api.Errno{api.ErrArg, api.ErrShort, api.ErrRange, api.ErrNone, -1, 23} {
			l = append(l, bad{proc, api.Res{Errno: e}}, bad{proc, api.Res{Errno: e, Attr: good}})
		}
		l = append(l, bad{proc, api.Res{Errno: api.NoEnt, Attr: file}}, bad{proc, api.Res{Errno: api.NoEnt, Data: []byte("a")}}, bad{proc, api.Res{Errno: api.NoEnt, Count: 1}},
			bad{proc, api.Res{Errno: api.NoEnt, EOF: true}}, bad{proc, api.Res{Errno: api.NoEnt, Entries: entriesOf(1)}})
		if proc != api.Read {
			l = append(l, bad{proc, api.Res{Attr: good, Data: []byte("a"), Count: 1}}, bad{proc, api.Res{Attr: good, Data: []byte("a")}})
		}
		if proc != api.Write {
			l = append(l, bad{proc, api.Res{Attr: good, Count: 1}})
		}
		if proc != api.Readdir {
			l = append(l, bad{proc, api.Res{Attr: good, Entries: entriesOf(1)}})
		}
		if proc != api.Read && proc != api.Readdir {
			l = append(l, bad{proc, api.Res{Attr: good, EOF: true}})
		}
		if good == (api.Attr{}) {
			l = append(l, bad{proc, api.Res{Attr: file}})
		}
	}
	l = append(l,
		bad{api.Read, api.Res{Data: []byte("ab"), Count: 1}}, bad{api.Read, api.Res{Data: []byte("ab")}}, bad{api.Read, api.Res{Data: make([]byte, 2049), Count: 2049}},
		bad{api.Write, api.Res{Count: -1, Attr: file}}, bad{api.Write, api.Res{Count: top + 1, Attr: file}},
		bad{api.Readdir, api.Res{Entries: entriesOf(65)}}, bad{api.Readdir, api.Res{Entries: entry("", 1, 1)}}, bad{api.Readdir, api.Res{Entries: entry("..", 1, 1)}},
		bad{api.Readdir, api.Res{Entries: entry("a/b", 1, 1)}}, bad{api.Readdir, api.Res{Entries: entry(strings.Repeat("x", 33), 1, 1)}},
		bad{api.Readdir, api.Res{Entries: entry("b", -1, 1)}}, bad{api.Readdir, api.Res{Entries: entry("b", 1, -1)}}, bad{api.Readdir, api.Res{Entries: entry("b", top+1, 1)}}, bad{api.Readdir, api.Res{Entries: entry("b", 1, top+1)}})
	for _, proc := range []int{0, -1, 4, 17, math.MaxInt, 1<<32 + 1} {
		l = append(l, bad{proc, api.Res{}}, bad{proc, api.Res{Errno: api.NoEnt}}, bad{proc, api.Res{Attr: file}})
	}
	for _, c := range l {
		if b, e := Write(c.proc, c.r); May(c.proc, c.r) || len(b) != 0 || e != api.ErrArg {
			t.Errorf("%d %+v: %q %d", c.proc, c.r, b, e)
		}
	}
}

// P15.2: the first error of reading.
func TestReadErrors(t *testing.T) {
	attr := words(1, 2, 2, 511, 65536)
	for _, c := range []struct {
		name string
		proc int
		b    string
		e    api.Errno
	}{
		{"no procedure", 0, ok + attr, api.ErrForm},
		{"no procedure, short", 4, "", api.ErrForm},
		{"status short", api.Remove, "\x00\x00\x00", api.ErrShort},
		{"none of the statuses", api.Remove, words(1), api.ErrForm},
		{"none of the statuses, and more", api.Remove, words(99, 1), api.ErrForm},
		{"greatest status", api.Getattr, words(top), api.ErrForm},
		{"more behind an error", api.Remove, words(2) + "\x00", api.ErrForm},
		{"an Attr behind an error", api.Getattr, words(2) + attr, api.ErrForm},
		{"more behind nothing", api.Rename, words(0, 0), api.ErrForm},
		{"more behind an Attr", api.Getattr, ok + attr + "\x00", api.ErrForm},
		{"Attr short", api.Mkdir, ok + attr[:19], api.ErrShort},
		{"kind 0", api.Lookup, ok + words(1, 2, 0, 511, 5), api.ErrForm},
		{"kind 3", api.Lookup, ok + words(1, 2, 3, 511, 5), api.ErrForm},
		{"kind 3, and short then", api.Lookup, ok + words(1, 2, 3, 511), api.ErrShort},
		{"mode 512", api.Lookup, ok + words(1, 2, 2, 512, 5), api.ErrForm},
		{"size 65537", api.Setsize, ok + words(1, 2, 2, 511, 65537), api.ErrForm},
		{"greatest size", api.Create, ok + words(1, 2, 2, 511, top), api.ErrForm},
		{"data too long", api.Read, ok + words(2049) + string(make([]byte, 2056)), api.ErrRange},
		{"data too long, and short then", api.Read, ok + words(top), api.ErrRange},
		{"data short", api.Read, ok + words(5) + "hello", api.ErrShort},
		{"data not filled up with 0", api.Read, ok + words(1) + "abcd" + words(0), api.ErrForm},
		{"data not filled up with 0, and short then", api.Read, ok + words(1) + "abcd", api.ErrForm},
		{"no EOF", api.Read, ok + words(1) + "a\x00\x00\x00", api.ErrShort},
		{"EOF neither", api.Read, ok + words(1) + "a\x00\x00\x00" + words(2), api.ErrForm},
		{"more behind EOF", api.Read, ok + words(0, 0) + "\x00", api.ErrForm},
		{"Count alone", api.Write, ok + words(3), api.ErrShort},
		{"kind of a Write", api.Write, ok + words(3, 1, 2, 9, 0, 0), api.ErrForm},
		{"more behind a Write", api.Write, ok + words(3) + attr + words(1), api.ErrForm},
		{"too many entries", api.Readdir, ok + words(65) + strings.Repeat(words(1)+"a\x00\x00\x00"+words(1, 1), 65) + words(0), api.ErrRange},
		{"too many entries, and short then", api.Readdir, ok + words(65), api.ErrRange},
		{"most entries", api.Readdir, ok + words(top), api.ErrRange},
		{"entries short", api.Readdir, ok + words(64), api.ErrShort},
		{"name too long", api.Readdir, ok + words(1, 33) + strings.Repeat("x", 36) + words(1, 1, 0), api.ErrRange},
		{"no name", api.Readdir, ok + words(1, 3) + "a/b\x00" + words(1, 1, 0), api.ErrForm},
		{"no name, and short then", api.Readdir, ok + words(1, 3) + "a/b\x00" + words(1, 1), api.ErrShort},
		{"no name, then a name too long", api.Readdir, ok + words(2, 0, 1, 1, 33), api.ErrRange},
		{"empty name", api.Readdir, ok + words(1, 0, 1, 1, 0), api.ErrForm},
		{"EOF of entries neither", api.Readdir, ok + words(0, 2), api.ErrForm},
		{"more behind entries", api.Readdir, ok + words(0, 1, 0), api.ErrForm},
	} {
		if r, e := Read(c.proc, []byte(c.b)); !Same(r, api.Res{}) || e != c.e {
			t.Errorf("%s: %+v %d", c.name, r, e)
		}
	}
	for _, c := range laid {
		for _, proc := range c.procs {
			for n := range c.b {
				if r, e := Read(proc, []byte(c.b[:n])); !Same(r, api.Res{}) || e != api.ErrShort {
					t.Error(proc, n, r, e)
				}
			}
			if r, e := Read(proc, []byte(c.b+"\x00")); !Same(r, api.Res{}) || e != api.ErrForm {
				t.Error(proc, r, e)
			}
		}
	}
}

// P15.1: whether all fields are the same.
func TestSame(t *testing.T) {
	full := func() api.Res {
		return api.Res{Errno: 1, Attr: file, Data: []byte("a"), Count: 2, EOF: true, Entries: entriesOf(2)}
	}
	if !Same(full(), full()) || !Same(api.Res{}, api.Res{Data: []byte{}, Entries: []api.Entry{}}) {
		t.Error("the same are others")
	}
	for i, do := range []func(r *api.Res){
		func(r *api.Res) { r.Errno++ }, func(r *api.Res) { r.Attr.Ino++ }, func(r *api.Res) { r.Attr.Gen++ }, func(r *api.Res) { r.Attr.Kind++ }, func(r *api.Res) { r.Attr.Mode++ },
		func(r *api.Res) { r.Attr.Size++ }, func(r *api.Res) { r.Data[0]++ }, func(r *api.Res) { r.Data = nil }, func(r *api.Res) { r.Count++ }, func(r *api.Res) { r.EOF = false },
		func(r *api.Res) { r.Entries[1].Name = "y" }, func(r *api.Res) { r.Entries[1].Handle.Gen++ }, func(r *api.Res) { r.Entries = r.Entries[:1] },
	} {
		r := full()
		do(&r)
		if Same(r, full()) || Same(full(), r) {
			t.Error(i)
		}
	}
}

// R4: what is handed in is not changed, and what is read is new memory.
func TestNewMemory(t *testing.T) {
	r := api.Res{Data: []byte("abcd"), Count: 4}
	b, _ := Write(api.Read, r)
	got, _ := Read(api.Read, b)
	for i := range b {
		b[i] = 'x'
	}
	l := api.Res{Entries: entriesOf(2), EOF: true}
	if !May(api.Read, r) || !May(api.Readdir, l) || string(r.Data) != "abcd" || string(got.Data) != "abcd" || r.Count != 4 || len(l.Entries) != 2 || !l.EOF {
		t.Error(r, got, l)
	}
}

// P15.3: nothing but what may be is read, and it is written as it was.
func TestReadAndWritten(t *testing.T) {
	dice := rand.New(rand.NewSource(15))
	for range 30000 {
		proc := calls.Procs()[dice.Intn(11)]
		b := make([]byte, 4+4*dice.Intn(9))
		for i := range b {
			if i > 3 && i%4 == 3 || dice.Intn(40) == 0 {
				b[i] = byte(dice.Intn(4))
			}
		}
		r, e := Read(proc, b)
		if e != api.OK {
			if !Same(r, api.Res{}) {
				t.Fatal(r)
			}
			continue
		}
		if w, e := Write(proc, r); !bytes.Equal(w, b) || e != api.OK || !May(proc, r) {
			t.Fatal(r, b, w, e)
		}
	}
}
