package calls

import (
	"truchman/api"
	"truchman/xdr"
)

// field is one of the fields with which procedures are asked.
type field int

const (
	h field = iota
	h2
	name
	name2
	off
	count
	size
	mode
	data
)

// fields is the fields of a procedure, in their row; none, if it is no procedure.
func fields(proc int) []field {
	switch proc {
	case api.Getattr:
		return []field{h}
	case api.Setsize:
		return []field{h, size}
	case api.Lookup, api.Remove, api.Rmdir:
		return []field{h, name}
	case api.Read, api.Readdir:
		return []field{h, off, count}
	case api.Write:
		return []field{h, off, data}
	case api.Create, api.Mkdir:
		return []field{h, name, mode}
	case api.Rename:
		return []field{h, name, h2, name2}
	}
	return nil
}

// hand does something with fields, one after the other: it looks at them, lays them, or reads them.
type hand interface {
	number(p *int)
	place(p *int)
	handle(p *api.Handle)
	text(p *string)
	data(p *[]byte)
}

// frame is what a procedure is asked with, and the hand that goes through its fields.
type frame struct {
	args api.Args
	by   hand
}

// pass lets the hand go through the procedure's fields, in their row.
func (f *frame) pass() {
	steps := map[field]func(){
		h: f.h, h2: f.h2, name: f.name, name2: f.name2,
		off: f.off, count: f.count, size: f.size, mode: f.mode, data: f.data,
	}
	for _, x := range fields(f.args.Proc) {
		steps[x]()
	}
}

func (f *frame) h()     { f.by.handle(&f.args.H) }
func (f *frame) h2()    { f.by.handle(&f.args.H2) }
func (f *frame) name()  { f.by.text(&f.args.Name) }
func (f *frame) name2() { f.by.text(&f.args.Name2) }
func (f *frame) off()   { f.by.place(&f.args.Off) }
func (f *frame) count() { f.by.number(&f.args.Count) }
func (f *frame) size()  { f.by.number(&f.args.Size) }
func (f *frame) mode()  { f.by.number(&f.args.Mode) }
func (f *frame) data()  { f.by.data(&f.args.Data) }

// look is a hand that looks whether fields may be, and makes them zero.
type look struct {
	good bool
}

func (l *look) number(p *int) { l.within(p, maxNumber) }
func (l *look) place(p *int)  { l.within(p, maxOff) }

func (l *look) handle(p *api.Handle) {
	l.number(&p.Ino)
	l.number(&p.Gen)
}

func (l *look) text(p *string) {
	l.good = l.good && len(*p) <= maxText
	*p = ""
}

func (l *look) data(p *[]byte) {
	l.good = l.good && len(*p) <= api.MaxFile
	*p = nil
}

func (l *look) within(p *int, most int) {
	l.good = l.good && *p >= 0 && *p <= most
	*p = 0
}

// lay is a hand that lays fields that may be.
type lay struct {
	bytes []byte
}

func (l *lay) number(p *int) { l.bytes = xdr.U32(l.bytes, uint32(*p)) }
func (l *lay) place(p *int)  { l.bytes = xdr.U64(l.bytes, uint64(*p)) }

func (l *lay) handle(p *api.Handle) {
	l.number(&p.Ino)
	l.number(&p.Gen)
}

func (l *lay) text(p *string) { l.bytes = xdr.Text(l.bytes, []byte(*p)) }
func (l *lay) data(p *[]byte) { l.bytes = xdr.Text(l.bytes, *p) }

// read is a hand that reads fields, and keeps the first error that its reader does not tell.
type read struct {
	from  *xdr.Reader
	errno api.Errno
}

func (r *read) number(p *int) { *p = int(r.from.U32()) }

func (r *read) place(p *int) {
	n := r.from.U64()
	if n > maxOff {
		r.keep(api.ErrRange)
	}
	*p = int(n)
}

func (r *read) handle(p *api.Handle) {
	r.number(&p.Ino)
	r.number(&p.Gen)
}

func (r *read) text(p *string) { *p = string(r.from.Text(maxText)) }
func (r *read) data(p *[]byte) { *p = r.from.Text(api.MaxFile) }

func (r *read) keep(e api.Errno) {
	if r.errno == api.OK {
		r.errno = e
	}
}
