package gate

import (
	"slices"

	"truchman/api"
	"truchman/fids"
	"truchman/name"
	"truchman/stat"
)

func (g *Gate) version(a api.Ask) (api.Tell, api.Errno) {
	if a.Msize < api.MinMsize {
		return api.Tell{}, api.ErrForm
	}
	g.fids.Clear()
	g.msize = min(a.Msize, api.MaxMsize)
	t := api.Tell{Msize: g.msize, Name: unknown}
	if a.Name == dialect {
		t.Name = dialect
	}
	return t, api.OK
}

func (g *Gate) attach(a api.Ask) (api.Tell, api.Errno) {
	if e := g.fids.Free(a.Fid); e != api.OK {
		return api.Tell{}, e
	}
	r, e := g.ask(api.Args{Proc: api.Getattr, H: g.root})
	if e != api.OK {
		return api.Tell{}, e
	}
	g.fids.Add(a.Fid, fids.Fid{H: g.root, Up: g.root, Dir: true})
	return api.Tell{Qid: stat.Qid(r.Attr)}, api.OK
}

func (g *Gate) flush(a api.Ask) (api.Tell, api.Errno) { return api.Tell{}, api.OK }

func (g *Gate) walk(a api.Ask) (api.Tell, api.Errno) {
	to, e := g.closed(a.Fid)
	if e != api.OK {
		return api.Tell{}, e
	}
	if a.Newfid != a.Fid {
		if e := g.fids.Free(a.Newfid); e != api.OK {
			return api.Tell{}, e
		}
	}
	var qids []api.Qid
	for i, s := range a.Names {
		next, qid, e := g.step(to, s)
		if e != api.OK && i == 0 {
			return api.Tell{}, e
		}
		if e != api.OK {
			return api.Tell{Qids: qids}, api.OK
		}
		to, qids = next, append(qids, qid)
	}
	if a.Newfid == a.Fid {
		g.fids.Set(a.Fid, to)
	} else {
		g.fids.Add(a.Newfid, to)
	}
	return api.Tell{Qids: qids}, api.OK
}

// step is what a fid of one step's stands for, and its qid.
func (g *Gate) step(from fids.Fid, s string) (fids.Fid, api.Qid, api.Errno) {
	if !name.Step(s) {
		return fids.Fid{}, api.Qid{}, api.BadName
	}
	r, e := g.ask(api.Args{Proc: api.Lookup, H: from.H, Name: s})
	if e != api.OK {
		return fids.Fid{}, api.Qid{}, e
	}
	to := fids.Fid{H: r.Attr.Handle, Up: from.H, Name: s, Dir: r.Attr.Kind == api.Dir}
	if s == up {
		to.Name = ""
	}
	return to, stat.Qid(r.Attr), api.OK
}

func (g *Gate) open(a api.Ask) (api.Tell, api.Errno) {
	f, e := g.closed(a.Fid)
	if e != api.OK {
		return api.Tell{}, e
	}
	r, e := g.ask(api.Args{Proc: api.Getattr, H: f.H})
	if e != api.OK {
		return api.Tell{}, e
	}
	if e := stat.Opens(a.Mode, r.Attr); e != api.OK {
		return api.Tell{}, e
	}
	if stat.Cuts(a.Mode) {
		if _, e := g.ask(api.Args{Proc: api.Setsize, H: f.H}); e != api.OK {
			return api.Tell{}, e
		}
	}
	f.Open, f.Mode, f.Off, f.At = true, a.Mode, 0, 0
	g.fids.Set(a.Fid, f)
	return api.Tell{Qid: stat.Qid(r.Attr), Iounit: g.room()}, api.OK
}

func (g *Gate) create(a api.Ask) (api.Tell, api.Errno) {
	f, e := g.closed(a.Fid)
	if e != api.OK {
		return api.Tell{}, e
	}
	bits, dir, e := stat.Perm(a.Perm)
	if e != api.OK {
		return api.Tell{}, e
	}
	proc, kind := api.Create, api.File
	if dir {
		proc, kind = api.Mkdir, api.Dir
	}
	if e := stat.Opens(a.Mode, api.Attr{Kind: kind}); e != api.OK {
		return api.Tell{}, e
	}
	if !name.Name(a.Name) {
		return api.Tell{}, api.BadName
	}
	r, e := g.ask(api.Args{Proc: proc, H: f.H, Name: a.Name, Mode: bits})
	if e != api.OK {
		return api.Tell{}, e
	}
	g.fids.Set(a.Fid, fids.Fid{H: r.Attr.Handle, Up: f.H, Name: a.Name, Dir: dir, Open: true, Mode: a.Mode})
	return api.Tell{Qid: stat.Qid(r.Attr), Iounit: g.room()}, api.OK
}

func (g *Gate) read(a api.Ask) (api.Tell, api.Errno) {
	f, e := g.opened(a.Fid, stat.Reads)
	if e != api.OK {
		return api.Tell{}, e
	}
	if f.Dir {
		return g.list(a, f)
	}
	r, e := g.ask(api.Args{Proc: api.Read, H: f.H, Off: a.Off, Count: min(a.Count, g.room())})
	if e != api.OK {
		return api.Tell{}, e
	}
	return api.Tell{Data: slices.Clone(r.Data)}, api.OK
}

// list reads a directory on from where it was read to, or from its first entry on.
func (g *Gate) list(a api.Ask, f fids.Fid) (api.Tell, api.Errno) {
	if a.Off == 0 {
		f.Off, f.At = 0, 0
	}
	if a.Off != f.Off {
		return api.Tell{}, api.BadCookie
	}
	r, e := g.ask(api.Args{Proc: api.Readdir, H: f.H, Off: f.At, Count: api.MaxNodes})
	if e != api.OK {
		return api.Tell{}, e
	}
	data, n := stat.Pack(r.Entries, min(a.Count, g.room()))
	f.Off += len(data)
	f.At += n
	g.fids.Set(a.Fid, f)
	return api.Tell{Data: data}, api.OK
}

func (g *Gate) write(a api.Ask) (api.Tell, api.Errno) {
	f, e := g.opened(a.Fid, stat.Writes)
	if e != api.OK {
		return api.Tell{}, e
	}
	data := slices.Clone(a.Data[:min(len(a.Data), g.room())])
	r, e := g.ask(api.Args{Proc: api.Write, H: f.H, Off: a.Off, Data: data})
	if e != api.OK {
		return api.Tell{}, e
	}
	return api.Tell{Count: r.Count}, api.OK
}

func (g *Gate) clunk(a api.Ask) (api.Tell, api.Errno) {
	return api.Tell{}, g.fids.Drop(a.Fid)
}

func (g *Gate) remove(a api.Ask) (api.Tell, api.Errno) {
	f, e := g.fids.Get(a.Fid)
	if e != api.OK {
		return api.Tell{}, e
	}
	g.fids.Drop(a.Fid)
	if f.Name == "" {
		return api.Tell{}, api.BadName
	}
	if e := g.found(f); e != api.OK {
		return api.Tell{}, e
	}
	proc := api.Remove
	if f.Dir {
		proc = api.Rmdir
	}
	_, e = g.ask(api.Args{Proc: proc, H: f.Up, Name: f.Name})
	return api.Tell{}, e
}

func (g *Gate) stat(a api.Ask) (api.Tell, api.Errno) {
	f, e := g.fids.Get(a.Fid)
	if e != api.OK {
		return api.Tell{}, e
	}
	r, e := g.ask(api.Args{Proc: api.Getattr, H: f.H})
	if e != api.OK {
		return api.Tell{}, e
	}
	return api.Tell{Stat: stat.Of(f.Name, r.Attr)}, api.OK
}

func (g *Gate) wstat(a api.Ask) (api.Tell, api.Errno) {
	f, e := g.fids.Get(a.Fid)
	if e != api.OK {
		return api.Tell{}, e
	}
	if a.Name != "" {
		if f, e = g.rename(f, a.Name); e != api.OK {
			return api.Tell{}, e
		}
		g.fids.Set(a.Fid, f)
	}
	if a.Size != keep {
		_, e = g.ask(api.Args{Proc: api.Setsize, H: f.H, Size: a.Size})
	}
	return api.Tell{}, e
}

// rename is a fid whose node has another name then.
func (g *Gate) rename(f fids.Fid, s string) (fids.Fid, api.Errno) {
	if !name.Name(s) || f.Name == "" {
		return f, api.BadName
	}
	if e := g.found(f); e != api.OK {
		return f, e
	}
	_, e := g.ask(api.Args{Proc: api.Rename, H: f.Up, Name: f.Name, H2: f.Up, Name2: s})
	if e == api.OK {
		f.Name = s
	}
	return f, e
}
