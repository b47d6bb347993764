package session

import (
	"sync/atomic"

	"truchman/answers"
	"truchman/api"
	"truchman/calls"
	"truchman/demark"
	"truchman/mark"
	"truchman/mux"
	"truchman/pipe"
	"truchman/rpc"
	"truchman/serve"
)

const (
	minFrag   = 64 // with less a record might have too many fragments
	maxForged = 16
)

// stream is a pipe of fragments, and what puts them together at its end.
type stream struct {
	pipe *pipe.Pipe
	end  *demark.Deframer
}

// link is a server, and the streams to it and back.
type link struct {
	server  *serve.Server
	first   uint32
	sent    atomic.Int64 // calls
	waits   *mux.Mux[int]
	to      stream
	back    stream
	frags   []int
	turn    int      // the place in frags of the next record's
	forged  [][]byte // what comes ahead of the next reply
	dead    bool
	dropped int
}

// connect is the streams of a script to a server; ErrArg, if they may not be.
func connect(server *serve.Server, s Script) (*link, api.Errno) {
	to, _ := newStream(s.Back)
	back, e := newStream(s.Back)
	if e != api.OK {
		return nil, e
	}
	frags := append([]int(nil), s.Frags...)
	if len(frags) == 0 {
		frags = []int{api.MaxRecord}
	}
	for _, n := range frags {
		if n < minFrag || n > api.MaxRecord {
			return nil, api.ErrArg
		}
	}
	waits, e := mux.New[int](s.First, 1)
	return &link{server: server, first: s.First, waits: waits, to: to, back: back, frags: frags}, e
}

func newStream(sizes []int) (stream, api.Errno) {
	p, e := pipe.New(sizes...)
	if e != api.OK {
		return stream{}, e
	}
	d, e := demark.New(api.MaxRecord, api.MaxFrags)
	return stream{pipe: p, end: d}, e
}

// ask asks the server over the streams.
func (l *link) ask(a api.Args) api.Res {
	body, e := calls.Write(a)
	if l.dead || e != api.OK {
		return unreached()
	}
	l.waits.Seek(l.first + uint32(l.sent.Load()))
	xid, _ := l.waits.Call(uint32(a.Proc), a.Proc)
	l.sent.Add(1)
	l.cut(l.to, rpc.Write(rpc.Msg{Xid: xid, Proc: uint32(a.Proc), Body: body}))
	l.serve()
	res := l.take()
	if l.waits.Drop(xid) {
		l.dead = true
	}
	if l.dead {
		return unreached()
	}
	return res
}

// serve lets the server get what was sent to it; its reply is sent behind what was forged.
func (l *link) serve() {
	for _, piece := range l.to.pipe.Drain() {
		for _, rec := range l.to.end.Feed(piece) {
			if reply, ok := l.server.Serve(rec); ok {
				l.release()
				l.cut(l.back, reply)
			}
		}
	}
}

// release sends all that was forged.
func (l *link) release() {
	for _, b := range l.forged {
		l.back.pipe.Send(b)
	}
	l.forged = nil
}

// take takes all pieces that come back: what the reply to the call that waits tells.
func (l *link) take() api.Res {
	var res api.Res
	for !l.dead {
		piece, ok := l.back.pipe.Next()
		if !ok {
			break
		}
		for _, rec := range l.back.end.Feed(piece) {
			if r, ok := l.match(rec); ok {
				res = r
			}
		}
		l.dead = l.dead || l.back.end.Errno() != api.OK
	}
	return res
}

// match is what a record tells, if it is the reply to the call that waits; any other reply is dropped, and of what is none the stream is dead.
func (l *link) match(rec []byte) (api.Res, bool) {
	if l.dead {
		return api.Res{}, false
	}
	m, err := rpc.Read(rec)
	if err != nil || !m.Reply {
		l.dead = true
		return api.Res{}, false
	}
	proc, e := l.waits.Match(m.Xid, m.Proc)
	if e != api.OK {
		l.dropped++
		return api.Res{}, false
	}
	res, e := answers.Read(proc, m.Body)
	l.dead = e != api.OK
	return res, e == api.OK
}

// cut sends a record in fragments of the size whose turn it is.
func (l *link) cut(s stream, rec []byte) {
	b, _ := mark.Mark(rec, l.frags[l.turn])
	l.turn = (l.turn + 1) % len(l.frags)
	s.pipe.Send(b)
}

func (l *link) forge(rec []byte) api.Errno {
	b, e := mark.Mark(rec, api.MaxRecord)
	if e != api.OK {
		return e
	}
	return l.junk(b)
}

func (l *link) junk(b []byte) api.Errno {
	if len(l.forged) == maxForged {
		return api.ErrFull
	}
	l.forged = append(l.forged, append([]byte(nil), b...))
	return api.OK
}

// unreached is what is told where the server can not be reached.
func unreached() api.Res { return api.Res{Errno: api.IO} }
