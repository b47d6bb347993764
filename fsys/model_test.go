package fsys

import (
	"math/rand"
	"slices"
	"strings"
	"testing"

	"truchman/api"
)

// plain is a node of a plain tree of files, against which the file system is held.
type plain struct {
	h    api.Handle
	dir  bool
	mode int
	up   *plain
	kids map[string]*plain
	data string
}

// model is such a tree, and how often each place was taken.
type model struct {
	root  *plain
	there map[int]*plain
	gens  map[int]int
	nodes int
	room  int
}

func newModel(nodes, room int) *model {
	m := &model{there: map[int]*plain{}, gens: map[int]int{}, nodes: nodes, room: room}
	m.root = m.make(true, 493, nil)
	m.root.up = m.root
	return m
}

func (m *model) make(dir bool, mode int, up *plain) *plain {
	for i := 1; i <= m.nodes; i++ {
		if m.there[i] == nil {
			m.gens[i]++
			p := &plain{h: api.Handle{Ino: i, Gen: m.gens[i]}, dir: dir, mode: mode, up: up, kids: map[string]*plain{}}
			m.there[i] = p
			return p
		}
	}
	return nil
}

func (m *model) used() int {
	n := 0
	for _, p := range m.there {
		n += len(p.data)
	}
	return n
}

func (m *model) get(h api.Handle) *plain {
	if p := m.there[h.Ino]; p != nil && p.h == h {
		return p
	}
	return nil
}

func (m *model) attr(p *plain) api.Attr {
	if p.dir {
		return api.Attr{Handle: p.h, Kind: api.Dir, Mode: p.mode, Size: len(p.kids)}
	}
	return api.Attr{Handle: p.h, Kind: api.File, Mode: p.mode, Size: len(p.data)}
}

func good(s string) bool {
	return s != "" && s != "." && s != ".." && len(s) <= 32 && !strings.ContainsAny(s, "/\x00")
}

func refused(e api.Errno) api.Res { return api.Res{Errno: e} }

// do is what a procedure tells of the plain tree (names are good, but where said).
func (m *model) do(a api.Args) api.Res {
	p := m.get(a.H)
	if p == nil {
		return refused(api.Stale)
	}
	switch a.Proc {
	case api.Getattr:
		return api.Res{Attr: m.attr(p)}
	case api.Setsize, api.Read, api.Write:
		if p.dir {
			return refused(api.IsDir)
		}
		return m.bytes(a, p)
	}
	if !p.dir {
		return refused(api.NotDir)
	}
	kid := p.kids[a.Name]
	switch {
	case a.Proc == api.Rename:
		return m.rename(a, p)
	case a.Proc == api.Readdir:
		return m.list(a, p)
	case a.Proc == api.Lookup && a.Name == "..":
		return api.Res{Attr: m.attr(p.up)}
	case !good(a.Name):
		return refused(api.BadName)
	case a.Proc == api.Create || a.Proc == api.Mkdir:
		if kid != nil {
			return refused(api.Exist)
		}
		if kid = m.make(a.Proc == api.Mkdir, a.Mode&511, p); kid == nil {
			return refused(api.NoSpace)
		}
		p.kids[a.Name] = kid
		return api.Res{Attr: m.attr(kid)}
	case kid == nil:
		return refused(api.NoEnt)
	case a.Proc == api.Lookup:
		return api.Res{Attr: m.attr(kid)}
	case a.Proc == api.Remove && kid.dir:
		return refused(api.IsDir)
	case a.Proc == api.Rmdir && !kid.dir:
		return refused(api.NotDir)
	case len(kid.kids) > 0:
		return refused(api.NotEmpty)
	}
	delete(p.kids, a.Name)
	delete(m.there, kid.h.Ino)
	return api.Res{}
}

func (m *model) bytes(a api.Args, p *plain) api.Res {
	data := p.data
	switch a.Proc {
	case api.Read:
		from := min(a.Off, len(data))
		to := min(from+a.Count, len(data))
		return api.Res{Data: []byte(data[from:to]), Count: to - from, EOF: a.Off >= len(data) || to == len(data)}
	case api.Setsize:
		data += strings.Repeat("\x00", max(0, a.Size-len(data)))
		data = data[:a.Size]
	case api.Write:
		if len(a.Data) > 0 {
			data += strings.Repeat("\x00", max(0, a.Off+len(a.Data)-len(data)))
			data = data[:a.Off] + string(a.Data) + data[a.Off+len(a.Data):]
		}
	}
	if len(data) > 2048 {
		return refused(api.TooBig)
	}
	if len(data)-len(p.data) > m.room-m.used() {
		return refused(api.NoSpace)
	}
	p.data = data
	return api.Res{Count: len(a.Data), Attr: m.attr(p)}
}

func (m *model) list(a api.Args, p *plain) api.Res {
	if a.Off > len(p.kids) {
		return refused(api.BadCookie)
	}
	var l []api.Entry
	for s, k := range p.kids {
		l = append(l, api.Entry{Name: s, Handle: k.h})
	}
	slices.SortFunc(l, func(a, b api.Entry) int { return strings.Compare(a.Name, b.Name) })
	to := min(a.Off+a.Count, len(l))
	return api.Res{Entries: l[a.Off:to], EOF: to == len(l)}
}

func (m *model) rename(a api.Args, p *plain) api.Res {
	q := m.get(a.H2)
	switch {
	case q == nil:
		return refused(api.Stale)
	case !q.dir:
		return refused(api.NotDir)
	case !good(a.Name) || !good(a.Name2):
		return refused(api.BadName)
	}
	kid, old := p.kids[a.Name], q.kids[a.Name2]
	if kid == nil {
		return refused(api.NoEnt)
	}
	for x := q; ; x = x.up {
		if x == kid {
			return refused(api.BadName)
		}
		if x == m.root {
			break
		}
	}
	switch {
	case old == kid:
		return api.Res{}
	case old != nil && kid.dir && !old.dir:
		return refused(api.NotDir)
	case old != nil && !kid.dir && old.dir:
		return refused(api.IsDir)
	case old != nil && len(old.kids) > 0:
		return refused(api.NotEmpty)
	case old != nil:
		delete(m.there, old.h.Ino)
	}
	delete(p.kids, a.Name)
	q.kids[a.Name2] = kid
	kid.up = q
	return api.Res{}
}

// reach counts the nodes that are reached from one, each of which is to be in the directory in which it was found.
func reach(t *testing.T, f *FS, h api.Handle, seen map[api.Handle]bool) {
	if seen[h] {
		t.Fatal("in two directories", h)
	}
	seen[h] = true
	for _, x := range f.Do(api.Args{Proc: api.Readdir, H: h, Count: 64}).Entries {
		reach(t, f, x.Handle, seen)
		if up := f.Do(api.Args{Proc: api.Lookup, H: x.Handle, Name: ".."}); up.Errno == api.OK && up.Attr.Handle != h {
			t.Fatal("in another directory", x, up)
		}
	}
}

// P13.3: what is told is what a plain tree of files tells, and each node is reached, just once.
func TestAgainstAPlainTree(t *testing.T) {
	procs := []int{api.Getattr, api.Setsize, api.Lookup, api.Read, api.Write, api.Create, api.Mkdir, api.Create, api.Mkdir, api.Remove, api.Rmdir, api.Rename, api.Rename, api.Readdir}
	names := []string{"a", "b", "c", "a", "b", "c", "d", "..", "", "a/b"}
	for seed := range int64(30) {
		dice := rand.New(rand.NewSource(seed))
		nodes, room := 1+dice.Intn(12), dice.Intn(3000)
		f, _ := New(nodes, room)
		m := newModel(nodes, room)
		handle := func() api.Handle {
			ino := 1 + dice.Intn(nodes+1)
			return api.Handle{Ino: ino, Gen: max(1, m.gens[ino]-dice.Intn(20)/19)}
		}
		for range 1500 {
			a := api.Args{Proc: procs[dice.Intn(len(procs))], H: handle(), H2: handle(), Name: names[dice.Intn(len(names))], Name2: names[dice.Intn(len(names))],
				Off: dice.Intn(60), Count: dice.Intn(60), Size: dice.Intn(60), Mode: dice.Intn(1024)}
			if dice.Intn(10) == 0 {
				a.Off, a.Size = dice.Intn(2100), dice.Intn(2100)
			}
			if a.Proc == api.Readdir {
				a.Off, a.Count = dice.Intn(5), dice.Intn(5)
			}
			if a.Proc == api.Write {
				a.Data = make([]byte, dice.Intn(40))
				dice.Read(a.Data)
			}
			want, got := m.do(a), f.Do(a)
			if !same(got, want) {
				t.Fatalf("%+v: %+v, not %+v", a, got, want)
			}
			if f.Used() != m.used() || f.Nodes() != len(m.there) {
				t.Fatal(f.Used(), f.Nodes())
			}
		}
		seen := map[api.Handle]bool{}
		reach(t, f, f.Root(), seen)
		if len(seen) != f.Nodes() {
			t.Fatal("not all are reached", len(seen), f.Nodes())
		}
	}
}
