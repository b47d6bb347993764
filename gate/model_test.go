package gate

import (
	"math/rand"
	"slices"
	"strings"
	"testing"

	"truchman/api"
	"truchman/codes"
	"truchman/fsys"
	"truchman/tell"
)

// plain is a node of a plain tree of files.
type plain struct {
	place, times int // its qid's
	dir, gone    bool
	mode         int
	up           *plain
	kids         map[string]*plain
	data         string
}

// hold is what a fid stands for in it.
type hold struct {
	at, up   *plain
	name     string
	dir      bool
	open     bool
	mode     int
	off, row int
}

// world is a plain tree of files, served to one client, with no server behind it.
type world struct {
	root  *plain
	all   []*plain // by places
	times []int
	room  int
	fids  map[int]hold
	msize int
}

func newWorld(nodes, room int) *world {
	w := &world{all: make([]*plain, nodes), times: make([]int, nodes), room: room, fids: map[int]hold{}, msize: 1024}
	w.root = w.born(true, 493, nil)
	w.root.up = w.root
	return w
}

func (w *world) born(dir bool, mode int, up *plain) *plain {
	for i, p := range w.all {
		if p == nil {
			w.times[i]++
			w.all[i] = &plain{place: i + 1, times: w.times[i], dir: dir, mode: mode, up: up, kids: map[string]*plain{}}
			return w.all[i]
		}
	}
	return nil
}

func (w *world) dies(p *plain) {
	p.gone = true
	w.all[p.place-1] = nil
}

// grows tells whether a node may have so many bytes.
func (w *world) grows(p *plain, size int) api.Errno {
	used := 0
	for _, q := range w.all {
		if q != nil {
			used += len(q.data)
		}
	}
	switch {
	case p.gone:
		return api.Stale
	case p.dir:
		return api.IsDir
	case size > 2048:
		return api.TooBig
	case used-len(p.data)+size > w.room && size > len(p.data):
		return api.NoSpace
	}
	return api.OK
}

func qid(p *plain) api.Qid { return api.Qid{Dir: p.dir, Version: p.times, Path: p.place} }

func named(s string) bool {
	return s != "" && s != "." && s != ".." && len(s) <= 32 && !strings.ContainsAny(s, "/\x00")
}

// resize is data with so many bytes.
func resize(data string, size int) string {
	return (data + strings.Repeat("\x00", max(0, size-len(data))))[:size]
}

// finds is the node of a name in a node.
func finds(p *plain, s string) (*plain, api.Errno) {
	switch {
	case !named(s) && s != "..":
		return nil, api.BadName
	case p.gone:
		return nil, api.Stale
	case !p.dir:
		return nil, api.NotDir
	case s == "..":
		return p.up, api.OK
	case p.kids[s] == nil:
		return nil, api.NoEnt
	}
	return p.kids[s], api.OK
}

func (w *world) free(n int) api.Errno {
	if _, ok := w.fids[n]; ok {
		return api.FidBusy
	}
	if len(w.fids) == 16 {
		return api.ErrFull
	}
	return api.OK
}

// do is the reply to a request.
func (w *world) do(a api.Ask) api.Tell {
	x, e := w.done(a)
	if e != api.OK {
		return tell.Error(a.Tag, codes.Code(e))
	}
	x.Type, x.Tag = a.Type+1, a.Tag
	return x
}

func (w *world) done(a api.Ask) (x api.Tell, e api.Errno) {
	f, held := w.fids[a.Fid]
	reads, writes := f.open && f.mode%16 != 1, f.open && f.mode%16 != 0
	switch a.Type {
	case api.Tversion:
		if a.Msize < 128 {
			return x, api.ErrForm
		}
		clear(w.fids)
		w.msize = min(1024, a.Msize)
		return api.Tell{Msize: w.msize, Name: map[bool]string{true: "9P", false: "unknown"}[a.Name == "9P"]}, api.OK
	case api.Tattach:
		if e := w.free(a.Fid); e != api.OK {
			return x, e
		}
		w.fids[a.Fid] = hold{at: w.root, up: w.root, dir: true}
		return api.Tell{Qid: qid(w.root)}, api.OK
	case api.Tflush:
		return x, api.OK
	}
	if !held {
		return x, api.BadFid
	}
	switch a.Type {
	case api.Tclunk:
		delete(w.fids, a.Fid)
		return x, api.OK
	case api.Tremove:
		delete(w.fids, a.Fid)
		return x, w.remove(f)
	case api.Tstat:
		if f.at.gone {
			return x, api.Stale
		}
		x.Stat = api.Stat{Qid: qid(f.at), Mode: f.at.mode, Size: len(f.at.data), Name: f.name}
		if f.at.dir {
			x.Stat.Mode += 1 << 31
		}
		return x, api.OK
	case api.Twstat:
		return x, w.wstat(a, f)
	case api.Tread:
		if !reads {
			return x, api.BadMode
		}
		if f.dir {
			return w.list(a, f)
		}
		if f.at.gone {
			return x, api.Stale
		}
		from := min(a.Off, len(f.at.data))
		x.Data = []byte(f.at.data[from:min(len(f.at.data), from+min(a.Count, w.msize-24))])
		return x, api.OK
	case api.Twrite:
		if !writes {
			return x, api.BadMode
		}
		data := string(a.Data[:min(len(a.Data), w.msize-24)])
		end := len(f.at.data)
		if len(data) > 0 {
			end = max(end, a.Off+len(data))
		}
		if e := w.grows(f.at, end); e != api.OK {
			return x, e
		}
		if len(data) > 0 {
			was := resize(f.at.data, end)
			f.at.data = was[:a.Off] + data + was[a.Off+len(data):]
		}
		return api.Tell{Count: len(data)}, api.OK
	}
	if f.open {
		return x, api.BadMode
	}
	switch a.Type {
	case api.Twalk:
		return w.walk(a, f)
	case api.Topen:
		if f.at.gone {
			return x, api.Stale
		}
		if a.Mode%16 > 2 || a.Mode > 18 {
			return x, api.BadMode
		}
		if f.at.dir && a.Mode != 0 {
			return x, api.IsDir
		}
		if a.Mode >= 16 {
			f.at.data = ""
		}
		f.open, f.mode = true, a.Mode
		w.fids[a.Fid] = f
		return api.Tell{Qid: qid(f.at), Iounit: w.msize - 24}, api.OK
	}
	return w.create(a, f)
}

func (w *world) walk(a api.Ask, f hold) (x api.Tell, e api.Errno) {
	if a.Newfid != a.Fid {
		if e := w.free(a.Newfid); e != api.OK {
			return x, e
		}
	}
	for _, s := range a.Names {
		p, e := finds(f.at, s)
		if e != api.OK {
			if len(x.Qids) == 0 {
				return x, e
			}
			return x, api.OK
		}
		f = hold{at: p, up: f.at, name: s, dir: p.dir}
		if s == ".." {
			f.name = ""
		}
		x.Qids = append(x.Qids, qid(p))
	}
	w.fids[a.Newfid] = f
	return x, api.OK
}

func (w *world) create(a api.Ask, f hold) (x api.Tell, e api.Errno) {
	dir := a.Perm >= 1<<31
	switch {
	case a.Perm&^(1<<31+511) != 0 || a.Mode%16 > 2 || a.Mode > 18:
		return x, api.BadMode
	case dir && a.Mode != 0:
		return x, api.IsDir
	case !named(a.Name):
		return x, api.BadName
	case f.at.gone:
		return x, api.Stale
	case !f.at.dir:
		return x, api.NotDir
	case f.at.kids[a.Name] != nil:
		return x, api.Exist
	}
	p := w.born(dir, a.Perm&511, f.at)
	if p == nil {
		return x, api.NoSpace
	}
	f.at.kids[a.Name] = p
	w.fids[a.Fid] = hold{at: p, up: f.at, name: a.Name, dir: dir, open: true, mode: a.Mode}
	return api.Tell{Qid: qid(p), Iounit: w.msize - 24}, api.OK
}

func (w *world) list(a api.Ask, f hold) (x api.Tell, e api.Errno) {
	if a.Off == 0 {
		f.off, f.row = 0, 0
	}
	switch {
	case a.Off != f.off:
		return x, api.BadCookie
	case f.at.gone:
		return x, api.Stale
	case f.row > len(f.at.kids):
		return x, api.BadCookie
	}
	var names []string
	for s := range f.at.kids {
		names = append(names, s)
	}
	slices.Sort(names)
	for _, s := range names[f.row:] {
		p := f.at.kids[s]
		b := append([]byte{byte(len(s)), 0}, s...)
		b = append(b, byte(p.place), 0, 0, 0, byte(p.times), byte(p.times>>8), 0, 0)
		if len(x.Data)+len(b) > min(a.Count, w.msize-24) {
			break
		}
		x.Data = append(x.Data, b...)
		f.row++
	}
	f.off += len(x.Data)
	w.fids[a.Fid] = f
	return x, api.OK
}

// same tells why a fid's name does not name its node any more.
func (f hold) same() api.Errno {
	if f.name == "" {
		return api.BadName
	}
	p, e := finds(f.up, f.name)
	if e == api.OK && p != f.at {
		return api.Stale
	}
	return e
}

func (w *world) remove(f hold) api.Errno {
	if e := f.same(); e != api.OK {
		return e
	}
	if len(f.at.kids) > 0 {
		return api.NotEmpty
	}
	delete(f.up.kids, f.name)
	w.dies(f.at)
	return api.OK
}

func (w *world) wstat(a api.Ask, f hold) api.Errno {
	if a.Name != "" {
		if !named(a.Name) {
			return api.BadName
		}
		if e := f.same(); e != api.OK {
			return e
		}
		old := f.up.kids[a.Name]
		switch {
		case old == f.at || old == nil:
		case f.at.dir && !old.dir:
			return api.NotDir
		case !f.at.dir && old.dir:
			return api.IsDir
		case len(old.kids) > 0:
			return api.NotEmpty
		default:
			w.dies(old)
		}
		delete(f.up.kids, f.name)
		f.up.kids[a.Name] = f.at
		f.name = a.Name
		w.fids[a.Fid] = f
	}
	if a.Size == -1 {
		return api.OK
	}
	e := w.grows(f.at, a.Size)
	if e == api.OK {
		f.at.data = resize(f.at.data, a.Size)
	}
	return e
}

// request is a request by chance, of few fids and few names, so that they meet.
func request(dice *rand.Rand) api.Ask {
	names := []string{"a", "b", "c", "a", "b", "c", "..", "..", "", "a/b", "long" + strings.Repeat("g", 28)}
	fid := func() int { return dice.Intn(7) }
	name := func() string { return names[dice.Intn(len(names))] }
	mode := func() int { return []int{0, 0, 0, 1, 2, 2, 2, 16, 17, 18, 3, 32}[dice.Intn(12)] }
	off := func() int {
		return []int{0, 0, 0, dice.Intn(30), dice.Intn(30), 11, 22, 33, dice.Intn(2100), 1 << 62}[dice.Intn(10)]
	}
	a := api.Ask{Tag: dice.Intn(65536), Fid: fid()}
	switch dice.Intn(16) {
	case 0:
		a.Type, a.Fid = api.Tversion, 0
		if dice.Intn(20) > 0 {
			a.Type, a.Fid = api.Tattach, fid()
		} else {
			a.Msize, a.Name = []int{0, 127, 128, 200, 1024, 5000}[dice.Intn(6)], []string{"9P", "x"}[dice.Intn(2)]
		}
	case 1, 2, 3:
		a.Type, a.Newfid = api.Twalk, fid()
		for range dice.Intn(4) {
			a.Names = append(a.Names, name())
		}
	case 4, 5:
		a.Type, a.Mode = api.Topen, mode()
	case 6, 7, 8:
		a.Type, a.Name, a.Perm, a.Mode = api.Tcreate, name(), []int{420, 420, 0, 511, 1 << 31, 1<<31 + 493, 1<<31 + 493, 512}[dice.Intn(8)], mode()
		if a.Perm >= 1<<31 && dice.Intn(4) > 0 {
			a.Mode = 0
		}
	case 9, 10:
		a.Type, a.Off, a.Count = api.Tread, off(), []int{0, 10, 11, 25, 100, 1000, 5000}[dice.Intn(7)]
	case 11, 12:
		a.Type, a.Off, a.Data = api.Twrite, off(), make([]byte, dice.Intn(40))
		dice.Read(a.Data)
		if dice.Intn(10) == 0 {
			a.Data = make([]byte, dice.Intn(1025))
		}
	case 13:
		a.Type = []int{api.Tclunk, api.Tclunk, api.Tclunk, api.Tflush}[dice.Intn(4)]
		if a.Type == api.Tflush {
			a.Fid, a.Oldtag = 0, 7
		}
	case 14:
		a.Type = []int{api.Tremove, api.Tstat, api.Tstat}[dice.Intn(3)]
	case 15:
		a.Type, a.Size = api.Twstat, []int{-1, -1, -1, 0, 5, 60, 2048, 2049}[dice.Intn(8)]
		if dice.Intn(4) > 0 {
			a.Name = name()
		}
	}
	return a
}

// P21.2: over a file system replies are those of a plain tree of files, and each may be.
func TestAgainstAPlainTree(t *testing.T) {
	told := map[string]int{}
	for seed := range int64(40) {
		dice := rand.New(rand.NewSource(seed))
		nodes, room := 1+dice.Intn(12), dice.Intn(4000)
		fs, _ := fsys.New(nodes, room)
		g, w := New(fs.Do, fs.Root()), newWorld(nodes, room)
		for range 3000 {
			a := request(dice)
			size := g.Msize()
			got, want := g.Do(a), w.do(a)
			if !tell.Same(got, want) {
				t.Fatalf("seed %d: %+v: %+v, not %+v", seed, a, got, want)
			}
			if a.Type == api.Tversion {
				size = g.Msize()
			}
			if b, e := tell.Write(got); e != api.OK || len(b) > size {
				t.Fatalf("%+v: %+v: %d bytes of %d, errno %d", a, got, len(b), size, e)
			}
			if got.Type == api.Rerror {
				told[codes.Text(codes.FromCode(got.Code))]++
			} else if got.Type != api.Twalk+1 || len(got.Qids) == len(a.Names) {
				told["ok"]++
			} else {
				told["partly"]++
			}
		}
	}
	for _, s := range []string{"ok", "partly", "stale", "no such name", "name exists", "not a directory", "is a directory", "not empty", "no space", "too big", "bad name", "bad cookie", "bad fid", "fid in use", "bad mode", "bad message"} {
		if told[s] < 20 {
			t.Errorf("%s is told %d times only", s, told[s])
		}
	}
}
