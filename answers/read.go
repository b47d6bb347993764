package answers

import (
	"truchman/api"
	"truchman/codes"
	"truchman/xdr"
)

// wrong is what reading is given up with, by a panic.
type wrong struct {
	errno api.Errno
}

// Read is the answer of a procedure whose bytes are all of b.
func Read(proc int, b []byte) (r api.Res, e api.Errno) {
	defer func() {
		if w, ok := recover().(wrong); ok {
			r, e = api.Res{}, w.errno
		}
	}()
	if !known(proc) {
		panic(wrong{api.ErrForm})
	}
	x := &reader{xdr.Read(b)}
	res := x.answer(proc)
	if x.from.End() != api.OK || !May(proc, res) {
		panic(wrong{api.ErrForm})
	}
	return res, api.OK
}

// reader reads what is laid, and gives up where that is wrong.
type reader struct {
	from *xdr.Reader
}

func (x *reader) answer(proc int) api.Res {
	res := api.Res{Errno: x.status()}
	if res.Errno != api.OK {
		return res
	}
	switch shapeOf(proc) {
	case attr:
		res.Attr = x.attr()
	case data:
		res.Data = x.text(api.MaxFile)
		res.Count = len(res.Data)
		res.EOF = x.yes()
	case written:
		res.Count = x.number()
		res.Attr = x.attr()
	case entries:
		res.Entries = x.entries()
		res.EOF = x.yes()
	}
	return res
}

// status is the error of a status; one that no error has is wrong.
func (x *reader) status() api.Errno {
	n := uint32(x.number())
	e := codes.FromStatus(n)
	if codes.Status(e) != n {
		panic(wrong{api.ErrForm})
	}
	return e
}

func (x *reader) attr() api.Attr {
	return api.Attr{Handle: x.handle(), Kind: x.number(), Mode: x.number(), Size: x.number()}
}

func (x *reader) entries() []api.Entry {
	n := x.number()
	if n > api.MaxNodes {
		panic(wrong{api.ErrRange})
	}
	var l []api.Entry
	for range n {
		l = append(l, api.Entry{Name: string(x.text(api.MaxName)), Handle: x.handle()})
	}
	return l
}

func (x *reader) handle() api.Handle {
	return api.Handle{Ino: x.number(), Gen: x.number()}
}

func (x *reader) number() int {
	n := int(x.from.U32())
	x.good()
	return n
}

func (x *reader) text(most int) []byte {
	s := x.from.Text(most)
	x.good()
	return s
}

func (x *reader) yes() bool {
	is := x.from.Bool()
	x.good()
	return is
}

// good gives up behind an error.
func (x *reader) good() {
	if e := x.from.Errno(); e != api.OK {
		panic(wrong{e})
	}
}
