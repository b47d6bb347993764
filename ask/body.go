package ask

import (
	"truchman/api"
	"truchman/little"
)

// hand does something with the fields of a body, one after the other: it looks at them, lays them, or reads them.
type hand interface {
	number(p *int, bits int)
	size(p *int)
	text(p *string)
	names(p *[]string)
	data(p *[]byte)
}

// bodies is, by its type, what a hand goes through of a request.
func bodies(a *api.Ask, by hand) map[int]func() {
	fid := func() { by.number(&a.Fid, 32) }
	return map[int]func(){
		api.Tversion: func() { by.number(&a.Msize, 32); by.text(&a.Name) },
		api.Tattach:  func() { fid(); by.text(&a.Name) },
		api.Tflush:   func() { by.number(&a.Oldtag, 16) },
		api.Twalk:    func() { fid(); by.number(&a.Newfid, 32); by.names(&a.Names) },
		api.Topen:    func() { fid(); by.number(&a.Mode, 8) },
		api.Tcreate:  func() { fid(); by.text(&a.Name); by.number(&a.Perm, 32); by.number(&a.Mode, 8) },
		api.Tread:    func() { fid(); by.number(&a.Off, 64); by.number(&a.Count, 32) },
		api.Twrite:   func() { fid(); by.number(&a.Off, 64); by.data(&a.Data) },
		api.Tclunk:   fid,
		api.Tremove:  fid,
		api.Tstat:    fid,
		api.Twstat:   func() { fid(); by.size(&a.Size); by.text(&a.Name) },
	}
}

// look is a hand that looks whether fields may be, and makes them zero.
type look struct {
	good bool
}

func (l *look) number(p *int, bits int) {
	most := maxOff
	if bits < 64 {
		most = 1<<bits - 1
	}
	l.good = l.good && *p >= 0 && *p <= most
	*p = 0
}

func (l *look) size(p *int) {
	l.good = l.good && *p >= -1 && *p < noSize
	*p = 0
}

func (l *look) text(p *string) {
	l.good = l.good && len(*p) <= maxText
	*p = ""
}

func (l *look) names(p *[]string) {
	l.good = l.good && len(*p) <= api.MaxWalk
	for _, s := range *p {
		l.text(&s)
	}
	*p = nil
}

func (l *look) data(p *[]byte) {
	l.good = l.good && len(*p) <= api.MaxMsize
	*p = nil
}

// lay is a hand that lays fields that may be.
type lay struct {
	bytes []byte
}

func (l *lay) number(p *int, bits int) {
	switch bits {
	case 8:
		l.bytes = little.U8(l.bytes, uint8(*p))
	case 16:
		l.bytes = little.U16(l.bytes, uint16(*p))
	case 32:
		l.bytes = little.U32(l.bytes, uint32(*p))
	default:
		l.bytes = little.U64(l.bytes, uint64(*p))
	}
}

func (l *lay) size(p *int)    { l.number(p, 32) }
func (l *lay) text(p *string) { l.bytes = little.Text(l.bytes, *p) }

func (l *lay) names(p *[]string) {
	l.bytes = little.U16(l.bytes, uint16(len(*p)))
	for _, s := range *p {
		l.text(&s)
	}
}

func (l *lay) data(p *[]byte) { l.bytes = little.Data(l.bytes, *p) }

// read is a hand that reads fields, and keeps the first error that its reader does not tell.
type read struct {
	from  *little.Reader
	errno api.Errno
}

func (r *read) number(p *int, bits int) {
	switch bits {
	case 8:
		*p = int(r.from.U8())
	case 16:
		*p = int(r.from.U16())
	case 32:
		*p = int(r.from.U32())
	default:
		*p = int(r.from.U64())
	}
}

func (r *read) size(p *int) {
	r.number(p, 32)
	if *p == noSize {
		*p = -1
	}
}

func (r *read) text(p *string) { *p = r.from.Text() }

func (r *read) names(p *[]string) {
	n := 0
	r.number(&n, 16)
	if n > api.MaxWalk {
		r.keep(api.ErrRange)
		return
	}
	for range n {
		s := ""
		r.text(&s)
		*p = append(*p, s)
	}
}

func (r *read) data(p *[]byte) { *p = r.from.Data(api.MaxMsize) }

func (r *read) keep(e api.Errno) {
	if r.errno == api.OK {
		r.errno = e
	}
}
