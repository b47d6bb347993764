package fsys

import (
	"truchman/api"
	"truchman/name"
)

func (f *FS) rename(a api.Args) api.Res {
	from, e := f.directory(a.H)
	if e != api.OK {
		return refuse(e)
	}
	to, e := f.directory(a.H2)
	if e != api.OK {
		return refuse(e)
	}
	if !name.Name(a.Name) || !name.Name(a.Name2) {
		return refuse(api.BadName)
	}
	h, e := from.entries.Get(a.Name)
	if e != api.OK {
		return refuse(e)
	}
	if f.within(a.H2, h) {
		return refuse(api.BadName)
	}
	if old, e := to.entries.Get(a.Name2); e == api.OK {
		if old == h { // a node has one entry alone, so both are that one
			return api.Res{}
		}
		if e := f.gives(h, old); e != api.OK {
			return refuse(e)
		}
		to.entries.Drop(a.Name2)
		f.nodes.Remove(old)
	}
	from.entries.Drop(a.Name)
	to.entries.Put(a.Name2, h)
	n, _ := f.nodes.Get(h)
	n.up = a.H2
	return api.Res{}
}

// within tells whether a directory is a node, or is in it, however far down.
func (f *FS) within(d api.Handle, h api.Handle) bool {
	for d != h {
		if d == f.root {
			return false
		}
		n, _ := f.nodes.Get(d)
		d = n.up
	}
	return true
}

// gives tells why a node may not come into the place of an old one.
func (f *FS) gives(h api.Handle, old api.Handle) api.Errno {
	n, _ := f.nodes.Get(h)
	o, _ := f.nodes.Get(old)
	switch {
	case n.kind == api.Dir && o.kind != api.Dir:
		return api.NotDir
	case n.kind != api.Dir && o.kind == api.Dir:
		return api.IsDir
	case o.kind == api.Dir && o.entries.Len() > 0:
		return api.NotEmpty
	}
	return api.OK
}
