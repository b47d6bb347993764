package tell

import (
	"truchman/api"
	"truchman/little"
)

// lay is b, and a field behind it.
func lay(b []byte, t api.Tell, f field) []byte {
	switch f {
	case msize:
		return little.U32(b, uint32(t.Msize))
	case name:
		return little.Text(b, t.Name)
	case qid:
		return layQid(b, t.Qid)
	case code:
		return little.U16(b, uint16(t.Code))
	case qids:
		return layQids(b, t.Qids)
	case iounit:
		return little.U32(b, uint32(t.Iounit))
	case data:
		return little.Data(b, t.Data)
	case count:
		return little.U32(b, uint32(t.Count))
	}
	return layStat(b, t.Stat)
}

func layQid(b []byte, q api.Qid) []byte {
	var first uint8
	if q.Dir {
		first = isDir
	}
	return little.U64(little.U32(little.U8(b, first), uint32(q.Version)), uint64(q.Path))
}

func layQids(b []byte, l []api.Qid) []byte {
	b = little.U16(b, uint16(len(l)))
	i := 0
next:
	if i == len(l) {
		return b
	}
	b = layQid(b, l[i])
	i++
	goto next
}

func layStat(b []byte, s api.Stat) []byte {
	b = little.U32(layQid(b, s.Qid), uint32(s.Mode))
	return little.Text(little.U64(b, uint64(s.Size)), s.Name)
}

// reader reads fields, and keeps the first error that what it reads from does not tell.
type reader struct {
	from  *little.Reader
	errno api.Errno
	odd   bool // whether a qid begins as none does, which counts behind all errors of reading
}

// read is a reply with a field of the next bytes.
func (r *reader) read(t api.Tell, f field) api.Tell {
	switch f {
	case msize:
		t.Msize = int(r.from.U32())
	case name:
		t.Name = r.from.Text()
	case qid:
		t.Qid = r.qid()
	case code:
		t.Code = int(r.from.U16())
	case qids:
		t.Qids = r.qids()
	case iounit:
		t.Iounit = int(r.from.U32())
	case data:
		t.Data = r.from.Data(api.MaxMsize)
	case count:
		t.Count = int(r.from.U32())
	case stat:
		t.Stat = r.stat()
	}
	return t
}

func (r *reader) qid() api.Qid {
	first := r.from.U8()
	r.odd = r.odd || first != 0 && first != isDir
	version := r.from.U32()
	return api.Qid{Dir: first == isDir, Version: int(version), Path: int(r.from.U64())}
}

func (r *reader) qids() []api.Qid {
	n := int(r.from.U16())
	if n > api.MaxWalk {
		r.keep(api.ErrRange)
		return nil
	}
	var l []api.Qid
next:
	if len(l) == n {
		return l
	}
	l = append(l, r.qid())
	goto next
}

func (r *reader) stat() api.Stat {
	s := api.Stat{Qid: r.qid()}
	s.Mode = int(r.from.U32())
	s.Size = int(r.from.U64())
	s.Name = r.from.Text()
	return s
}

func (r *reader) keep(e api.Errno) {
	if r.errno == api.OK {
		r.errno = e
	}
}
