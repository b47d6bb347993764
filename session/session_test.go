package session

import (
	"bytes"
	"math"
	"slices"
	"strings"
	"testing"

	"truchman/answers"
	"truchman/api"
	"truchman/ask"
	"truchman/codes"
	"truchman/little"
	"truchman/rpc"
	"truchman/tell"
)

// plain is the script of most tests.
var plain = Script{Nodes: 16, Room: 4096, Most: 4, First: 1}

func session(t *testing.T, s Script) *Session {
	t.Helper()
	x, e := New(s)
	if e != api.OK || x == nil || !May(s) {
		t.Fatal(s, e)
	}
	return x
}

// feed sends requests.
func feed(t *testing.T, s *Session, l ...api.Ask) {
	t.Helper()
	for _, a := range l {
		b, e := ask.Write(a)
		if e != api.OK {
			t.Fatal(a, e)
		}
		if e := s.Feed(b); e != api.OK {
			t.Fatal(a, e)
		}
	}
}

// told is the replies that were not told yet.
func told(t *testing.T, s *Session) []api.Tell {
	t.Helper()
	whole, rest, e := little.Split(s.Out(), 5000)
	if len(rest) != 0 || e != api.OK {
		t.Fatal(rest, e)
	}
	var l []api.Tell
	for _, b := range whole {
		x, e := tell.Read(b)
		if e != api.OK {
			t.Fatal(b, e)
		}
		l = append(l, x)
	}
	return l
}

// expect tells whether just these replies were not told yet.
func expect(t *testing.T, s *Session, want ...api.Tell) {
	t.Helper()
	if got := told(t, s); !slices.EqualFunc(got, want, tell.Same) {
		t.Errorf("%+v, not %+v", got, want)
	}
}

// do sends a request and serves it: its reply.
func do(t *testing.T, s *Session, a api.Ask) api.Tell {
	t.Helper()
	feed(t, s, a)
	if !s.Serve(0) {
		t.Fatal("nothing waits", a)
	}
	l := told(t, s)
	if len(l) != 1 || l[0].Tag != a.Tag {
		t.Fatalf("%+v: %+v", a, l)
	}
	return l[0]
}

func refusal(tag int, e api.Errno) api.Tell { return tell.Error(tag, codes.Code(e)) }

var rootQid = api.Qid{Dir: true, Version: 1, Path: 1}

// attached is a session with the fid 0 for the root, by one call.
func attached(t *testing.T, s Script) *Session {
	t.Helper()
	x := session(t, s)
	if r := do(t, x, api.Ask{Type: api.Tattach}); r.Qid != rootQid {
		t.Fatalf("%+v", r)
	}
	return x
}

var stat = api.Ask{Type: api.Tstat, Tag: 5}

// P23.1: the scripts that may be.
func TestNew(t *testing.T) {
	with := func(do func(s *Script)) Script {
		s := plain
		do(&s)
		return s
	}
	for _, s := range []Script{
		plain, {Nodes: 1, Most: 1}, {Nodes: 64, Room: 65536, Most: 8, First: math.MaxUint32},
		with(func(s *Script) { s.Front = []int{0, 1} }), with(func(s *Script) { s.Back = []int{math.MaxInt, 0} }), with(func(s *Script) { s.Frags = []int{64, 4096, 65} }),
	} {
		if x, e := New(s); !May(s) || x == nil || e != api.OK {
			t.Error(s, e)
		} else if x.Waits() != 0 || x.Dead() || x.Errno() != api.OK || x.Calls() != 0 || x.Dropped() != 0 || len(x.Out()) != 0 || x.Serve(0) {
			t.Error("something was sent", s)
		}
	}
	for _, s := range []Script{
		{}, with(func(s *Script) { s.Nodes = 0 }), with(func(s *Script) { s.Nodes = 65 }), with(func(s *Script) { s.Room = -1 }), with(func(s *Script) { s.Room = 65537 }),
		with(func(s *Script) { s.Most = 0 }), with(func(s *Script) { s.Most = 9 }), with(func(s *Script) { s.Front = []int{0} }), with(func(s *Script) { s.Front = []int{5, -1} }),
		with(func(s *Script) { s.Back = []int{0, 0} }), with(func(s *Script) { s.Back = []int{-1} }), with(func(s *Script) { s.Frags = []int{63} }), with(func(s *Script) { s.Frags = []int{4097} }),
		with(func(s *Script) { s.Frags = []int{64, 0} }), with(func(s *Script) { s.Frags = []int{100, -1} }),
	} {
		if x, e := New(s); May(s) || x != nil || e != api.ErrArg {
			t.Error(s, e)
		}
	}
}

// R4: the lists of a script are not kept.
func TestScriptIsNotKept(t *testing.T) {
	s := plain
	s.Front, s.Back, s.Frags = []int{3}, []int{5}, []int{64}
	x := session(t, s)
	s.Front[0], s.Back[0], s.Frags[0] = 0, 0, 0
	if r := do(t, x, api.Ask{Type: api.Tattach, Tag: 1}); r.Qid != rootQid {
		t.Errorf("%+v", r)
	}
}

// P23.2: requests wait till they are served, in whatever row; replies are told once.
func TestFeedServeOut(t *testing.T) {
	s := session(t, plain)
	feed(t, s, api.Ask{Type: api.Tattach, Tag: 1}, api.Ask{Type: api.Tattach, Tag: 2, Fid: 7}, api.Ask{Type: api.Tclunk, Tag: 3, Fid: 7})
	if s.Waits() != 3 || s.Calls() != 0 {
		t.Error(s.Waits(), s.Calls())
	}
	expect(t, s)
	for _, k := range []int{3, -1, math.MinInt, math.MaxInt} {
		if s.Serve(k) || s.Waits() != 3 {
			t.Error(k)
		}
	}
	if !s.Serve(1) || s.Waits() != 2 || s.Calls() != 1 {
		t.Error(s.Waits(), s.Calls())
	}
	if !s.Serve(1) || !s.Serve(0) || s.Serve(0) || s.Waits() != 0 {
		t.Error(s.Waits())
	}
	expect(t, s, api.Tell{Type: 105, Tag: 2, Qid: rootQid}, api.Tell{Type: 121, Tag: 3}, api.Tell{Type: 105, Tag: 1, Qid: rootQid})
	if len(s.Out()) != 0 || s.Calls() != 2 || s.Dropped() != 0 || s.Dead() {
		t.Error(s.Calls(), s.Dropped())
	}
	feed(t, s, stat)
	s.Serve(0)
	out := s.Out()
	clear(out)
	if x := do(t, s, stat); x.Stat.Qid != rootQid {
		t.Errorf("%+v", x)
	}
}

// P23.2: a message that is no request, of each kind, has the error of its form, and its tag.
func TestNoRequest(t *testing.T) {
	s := session(t, plain)
	for _, b := range [][]byte{
		little.Pack(0, 258, nil), little.Pack(api.Tattach+1, 258, make([]byte, 13)), little.Pack(api.Rerror, 258, []byte{1, 0}), little.Pack(api.Tclunk, 258, []byte{1, 0, 0}),
		little.Pack(api.Tclunk, 258, []byte{1, 0, 0, 0, 0}), little.Pack(api.Twalk, 258, []byte{0, 0, 0, 0, 0, 0, 0, 0, 9, 0}), little.Pack(255, 258, make([]byte, 1017)),
	} {
		if e := s.Feed(b); e != api.OK || s.Waits() != 0 {
			t.Error(b, e)
		}
		expect(t, s, refusal(258, api.ErrForm))
	}
	feed(t, s, api.Ask{Type: api.Tattach, Tag: 258})
	s.Feed(little.Pack(0, 258, nil))
	expect(t, s, refusal(258, api.ErrForm))
	if s.Waits() != 1 || s.Calls() != 0 {
		t.Error(s.Waits())
	}
}

// P23.2: a tag that waits already, and a request too many, have the fixed error, and change nothing.
func TestQueue(t *testing.T) {
	s := session(t, plain)
	attach := func(tag int) api.Ask { return api.Ask{Type: api.Tattach, Tag: tag, Fid: tag} }
	feed(t, s, attach(1), attach(2), api.Ask{Type: api.Tclunk, Tag: 1})
	expect(t, s, refusal(1, api.ErrTwice))
	feed(t, s, attach(3), attach(4), attach(5), attach(4), attach(5))
	expect(t, s, refusal(5, api.ErrFull), refusal(4, api.ErrTwice), refusal(5, api.ErrFull))
	for s.Serve(0) {
	}
	var want []api.Tell
	for tag := 1; tag < 5; tag++ {
		want = append(want, api.Tell{Type: 105, Tag: tag, Qid: rootQid})
	}
	expect(t, s, want...)
}

// P23.2: Tflush calls a request back that waits, and is replied at once, whatever its own tag.
func TestFlush(t *testing.T) {
	s := session(t, plain)
	flush := func(tag, old int) api.Ask { return api.Ask{Type: api.Tflush, Tag: tag, Oldtag: old} }
	feed(t, s, api.Ask{Type: api.Tattach, Tag: 1}, api.Ask{Type: api.Tattach, Tag: 2}, flush(3, 2))
	expect(t, s, refusal(2, api.Flushed), api.Tell{Type: 109, Tag: 3})
	feed(t, s, flush(3, 2), flush(1, 9))
	expect(t, s, api.Tell{Type: 109, Tag: 3}, api.Tell{Type: 109, Tag: 1})
	if s.Waits() != 1 || s.Calls() != 0 {
		t.Error(s.Waits(), s.Calls())
	}
	feed(t, s, flush(1, 1))
	expect(t, s, refusal(1, api.Flushed), api.Tell{Type: 109, Tag: 1})
	if s.Waits() != 0 || s.Serve(0) {
		t.Error(s.Waits())
	}
	feed(t, s, stat, api.Ask{Type: api.Tstat, Tag: 6}, api.Ask{Type: api.Tstat, Tag: 7}, api.Ask{Type: api.Tstat, Tag: 8}, flush(9, 7))
	expect(t, s, refusal(7, api.Flushed), api.Tell{Type: 109, Tag: 9})
	for s.Serve(0) {
	}
	expect(t, s, refusal(5, api.BadFid), refusal(6, api.BadFid), refusal(8, api.BadFid))
}

// P23.2: where the client's stream is wrong that is told now and ever after; what waits is still served.
func TestClientError(t *testing.T) {
	for _, c := range []struct {
		b []byte
		e api.Errno
	}{
		{[]byte{6, 0, 0, 0}, api.ErrForm}, {[]byte{0, 0, 0, 0, 1, 2, 3}, api.ErrForm}, {[]byte{1, 4, 0, 0}, api.ErrRange}, {[]byte{255, 255, 255, 255, 1}, api.ErrRange},
	} {
		for _, front := range [][]int{nil, {1}, {0, 3, 2}} {
			script := plain
			script.Front = front
			s := session(t, script)
			good, _ := ask.Write(api.Ask{Type: api.Tattach, Tag: 4})
			next, _ := ask.Write(api.Ask{Type: api.Tattach, Tag: 5, Fid: 9})
			if e := s.Feed(slices.Concat(good, c.b, next)); e != c.e || s.Errno() != c.e || s.Waits() != 1 {
				t.Error(c, e, s.Errno(), s.Waits())
			}
			for _, b := range [][]byte{next, nil, little.Pack(0, 1, nil)} {
				if e := s.Feed(b); e != c.e || s.Errno() != c.e || s.Waits() != 1 {
					t.Error(c, e, s.Errno(), s.Waits())
				}
			}
			expect(t, s)
			if !s.Serve(0) || s.Serve(0) || s.Dead() {
				t.Error("what waits is not served")
			}
			expect(t, s, api.Tell{Type: 105, Tag: 4, Qid: rootQid})
		}
	}
	s := session(t, plain)
	if e := s.Feed([]byte{6, 0, 0}); e != api.OK || s.Errno() != api.OK {
		t.Error("not all of a size", e)
	}
	if e := s.Feed([]byte{0}); e != api.ErrForm {
		t.Error(e)
	}
}

// P23.2: what is no whole message waits for its rest, however long that takes.
func TestParts(t *testing.T) {
	s := session(t, plain)
	b, _ := ask.Write(api.Ask{Type: api.Tattach, Tag: 4})
	for i := range b {
		if s.Waits() != 0 || s.Feed(b[i:i+1]) != api.OK || s.Feed(nil) != api.OK {
			t.Error(i)
		}
	}
	if s.Waits() != 1 {
		t.Error(s.Waits())
	}
	most, _ := ask.Write(api.Ask{Type: api.Twrite, Tag: 5, Data: make([]byte, 1001)})
	if e := s.Feed(most); len(most) != 1024 || e != api.OK || s.Waits() != 2 {
		t.Error(len(most), e, s.Waits())
	}
	more, _ := ask.Write(api.Ask{Type: api.Twrite, Tag: 6, Data: make([]byte, 1002)})
	if e := s.Feed(more); e != api.ErrRange || s.Waits() != 2 {
		t.Error(e, s.Waits())
	}
}

// reply is the bytes of a reply to a Getattr with the body of this answer.
func reply(xid uint32, proc int, r api.Res) []byte {
	body, e := answers.Write(proc, r)
	if e != api.OK {
		panic(e)
	}
	return rpc.Write(rpc.Msg{Reply: true, Xid: xid, Proc: uint32(proc), Body: body})
}

func attr(ino int) api.Res {
	return api.Res{Attr: api.Attr{Handle: api.Handle{Ino: ino, Gen: 1}, Kind: api.File, Mode: 1, Size: 2}}
}

// P23.3, P23.4: replies of another number or procedure are dropped, and change nothing.
func TestForgedOfOthers(t *testing.T) {
	for _, first := range []uint32{1, math.MaxUint32, 0} {
		script := plain
		script.First = first
		s := attached(t, script)
		next := first + 1
		for _, rec := range [][]byte{
			reply(next-1, api.Getattr, attr(9)), reply(next+1, api.Getattr, attr(9)), reply(next, api.Lookup, attr(9)), reply(next, api.Read, api.Res{}),
			rpc.Write(rpc.Msg{Reply: true, Xid: next, Proc: math.MaxUint32}), rpc.Write(rpc.Msg{Reply: true, Xid: next + 7, Proc: 1, Body: []byte{1}}),
		} {
			if e := s.Forge(rec); e != api.OK {
				t.Error(e)
			}
		}
		if x := do(t, s, stat); x.Stat.Qid != rootQid || s.Dropped() != 6 || s.Calls() != 2 || s.Dead() {
			t.Errorf("%+v, dropped %d, calls %d", x, s.Dropped(), s.Calls())
		}
		if x := do(t, s, stat); x.Stat.Qid != rootQid || s.Dropped() != 6 || s.Calls() != 3 {
			t.Errorf("%+v, dropped %d", x, s.Dropped())
		}
	}
}

// P23.3: a record that is forged with the number of its call is taken, and the server's own is dropped then.
func TestForgedOfItsCall(t *testing.T) {
	s := attached(t, plain)
	s.Forge(reply(1, api.Getattr, attr(7)))
	s.Forge(reply(2, api.Getattr, attr(8)))
	s.Forge(reply(2, api.Getattr, attr(9)))
	if x := do(t, s, stat); x.Stat != (api.Stat{Qid: api.Qid{Version: 1, Path: 8}, Mode: 1, Size: 2}) || s.Dropped() != 3 || s.Dead() || s.Calls() != 2 {
		t.Errorf("%+v, dropped %d", x, s.Dropped())
	}
	s.Forge(reply(3, api.Getattr, api.Res{Errno: api.NotEmpty}))
	if x := do(t, s, stat); !tell.Same(x, refusal(5, api.NotEmpty)) || s.Dropped() != 4 || s.Dead() {
		t.Errorf("%+v", x)
	}
	if x := do(t, s, stat); x.Stat.Qid != rootQid || s.Dropped() != 4 {
		t.Errorf("%+v", x)
	}
}

// P23.2: a reply that may not be has no bytes, and its tag has none.
func TestReplyThatMayNotBe(t *testing.T) {
	s := attached(t, plain)
	do(t, s, api.Ask{Type: api.Tcreate, Name: "f", Perm: 420, Mode: 2})
	next := uint32(1 + s.Calls())
	s.Forge(reply(next, api.Read, api.Res{Data: make([]byte, 1025), Count: 1025}))
	feed(t, s, api.Ask{Type: api.Tread, Tag: 8, Count: 3}, api.Ask{Type: api.Tread, Tag: 9, Count: 3})
	if !s.Serve(0) || len(s.Out()) != 0 || s.Waits() != 1 || s.Dead() {
		t.Error("a reply that may not be is told")
	}
	s.Serve(0)
	expect(t, s, api.Tell{Type: 117, Tag: 9})
	s.Forge(reply(next+2, api.Read, api.Res{Data: make([]byte, 1024), Count: 1024}))
	if x := do(t, s, api.Ask{Type: api.Tread, Tag: 8, Count: 3}); len(x.Data) != 1024 {
		t.Errorf("%+v", x)
	}
}

// zeros is junk of n fragments without bytes that are not the last ones of their record.
func zeros(n int) []byte { return make([]byte, 4*n) }

// P23.3: of what the stream back is dead; behind it the server is asked no more.
func TestDead(t *testing.T) {
	own := reply(2, api.Getattr, attr(9))
	for _, c := range []struct {
		name    string
		forge   func(s *Session)
		dropped int
	}{
		{"no record of its form", func(s *Session) { s.Forge([]byte{1, 2, 3}) }, 0},
		{"a record without bytes", func(s *Session) { s.Forge(nil) }, 0},
		{"a call", func(s *Session) { s.Forge(rpc.Write(rpc.Msg{Xid: 2, Proc: api.Getattr, Body: own[16:]})) }, 0},
		{"a bad body", func(s *Session) {
			s.Forge(rpc.Write(rpc.Msg{Reply: true, Xid: 2, Proc: api.Getattr, Body: []byte{0, 0, 0, 0}}))
		}, 0},
		{"no body", func(s *Session) { s.Forge(rpc.Write(rpc.Msg{Reply: true, Xid: 2, Proc: api.Getattr})) }, 0},
		{"a fragment that is too great", func(s *Session) { s.Junk([]byte{0, 0, 16, 1}) }, 0},
		{"too many fragments", func(s *Session) { s.Junk(zeros(64)) }, 0},
		{"its reply swallowed", func(s *Session) { s.Junk([]byte{128, 0, 16, 0}) }, 0},
		{"half a number ahead of its reply", func(s *Session) { s.Junk([]byte{0}) }, 0},
		{"behind its own", func(s *Session) { s.Forge(own); s.Forge([]byte{1, 2, 3}) }, 0},
		{"behind its own, a fragment", func(s *Session) { s.Forge(own); s.Junk([]byte{255, 255, 255, 255}) }, 0},
		{"behind two that are dropped", func(s *Session) {
			s.Forge(reply(7, api.Getattr, attr(9)))
			s.Forge(reply(2, api.Read, api.Res{}))
			s.Forge([]byte{1, 2, 3})
			s.Forge(reply(7, api.Getattr, attr(9)))
		}, 2},
		{"a fragment behind one that is dropped", func(s *Session) {
			s.Forge(reply(7, api.Getattr, attr(9)))
			s.Junk([]byte{127, 0, 0, 0})
			s.Forge(reply(7, api.Getattr, attr(9)))
		}, 1},
	} {
		for _, back := range [][]int{nil, {1}, {0, 5}, {7, 100}} {
			script := plain
			script.Back = back
			s := attached(t, script)
			c.forge(s)
			if s.Dead() {
				t.Error(c.name, "dead ahead of a call")
			}
			for range 3 {
				if x := do(t, s, stat); !tell.Same(x, refusal(5, api.IO)) || !s.Dead() || s.Calls() != 2 || s.Dropped() != c.dropped {
					t.Errorf("%s, by %v: %+v, dead %v, calls %d, dropped %d", c.name, back, x, s.Dead(), s.Calls(), s.Dropped())
				}
			}
			if x := do(t, s, api.Ask{Type: api.Tclunk, Tag: 1}); x.Type != api.Tclunk+1 {
				t.Errorf("%s: what does not ask the server: %+v", c.name, x)
			}
			for n := range 20 {
				if e := s.Forge(nil); (e == api.OK) != (n < 16) || e != api.OK && e != api.ErrFull {
					t.Error(c.name, n, e)
				}
			}
			do(t, s, api.Ask{Type: api.Tattach, Tag: 1})
			if e := s.Junk(nil); e != api.ErrFull {
				t.Error("what was forged behind a dead stream does not wait on", e)
			}
		}
	}
}

// P23.3: what comes ahead of a reply and is not its end does no harm.
func TestNotDead(t *testing.T) {
	for _, junk := range [][]byte{nil, zeros(1), zeros(63)} {
		s := attached(t, plain)
		s.Junk(junk)
		if x := do(t, s, stat); x.Stat.Qid != rootQid || s.Dead() || s.Dropped() != 0 {
			t.Errorf("%d: %+v", len(junk), x)
		}
	}
	whole := attached(t, plain)
	rec := reply(2, api.Getattr, attr(9))
	whole.Junk([]byte{128, 0})
	whole.Junk([]byte{0, byte(len(rec)), rec[0]})
	whole.Junk(rec[1:])
	if x := do(t, whole, stat); x.Stat.Qid.Path != 9 || whole.Dead() || whole.Dropped() != 1 {
		t.Errorf("a reply in three parts: %+v", x)
	}
	s := attached(t, plain)
	s.Forge(reply(2, api.Getattr, attr(9)))
	s.Junk([]byte{128, 0, 0, 200})
	if x := do(t, s, stat); x.Stat.Qid.Path != 9 || s.Dead() {
		t.Errorf("%+v", x)
	}
	if x := do(t, s, stat); !tell.Same(x, refusal(5, api.IO)) || !s.Dead() || s.Calls() != 3 {
		t.Errorf("what was left over is not kept: %+v", x)
	}
}

// P23.3: T5: a Twalk whose first name was found ahead of a dead stream tells the qids so far.
func TestWalkIntoADeadStream(t *testing.T) {
	s := attached(t, plain)
	s.Forge(reply(2, api.Lookup, api.Res{Attr: api.Attr{Handle: api.Handle{Ino: 8, Gen: 9}, Kind: api.Dir}}))
	s.Junk([]byte{128, 0, 0, 100})
	feed(t, s, api.Ask{Type: api.Twalk, Tag: 1, Newfid: 1, Names: []string{"a", "b"}})
	s.Serve(0)
	expect(t, s, api.Tell{Type: 111, Tag: 1, Qids: []api.Qid{{Dir: true, Version: 9, Path: 8}}})
	if !s.Dead() || s.Calls() != 3 {
		t.Error(s.Dead(), s.Calls())
	}
	if x := do(t, s, api.Ask{Type: api.Twalk, Tag: 1, Newfid: 1, Names: []string{"a", "b"}}); !tell.Same(x, refusal(1, api.IO)) {
		t.Errorf("%+v", x)
	}
}

// P23.3: how much may be forged, and when it comes.
func TestForgeErrors(t *testing.T) {
	s := attached(t, plain)
	if e := s.Forge(make([]byte, 4097)); e != api.ErrRange {
		t.Error(e)
	}
	rec := reply(7, api.Getattr, attr(9))
	for n := range 16 {
		var e api.Errno
		if n%2 == 0 {
			e = s.Forge(rec)
		} else {
			e = s.Junk(nil)
		}
		if e != api.OK {
			t.Error(n, e)
		}
	}
	if s.Forge(rec) != api.ErrFull || s.Forge(nil) != api.ErrFull || s.Junk(nil) != api.ErrFull || s.Junk(rec) != api.ErrFull || s.Forge(make([]byte, 4097)) != api.ErrRange {
		t.Error("more than may wait")
	}
	if x := do(t, s, api.Ask{Type: api.Tclunk, Tag: 1, Fid: 44}); !tell.Same(x, refusal(1, api.BadFid)) || s.Dropped() != 0 {
		t.Errorf("what is forged comes without a reply: %+v", x)
	}
	clear(rec)
	if x := do(t, s, stat); x.Stat.Qid != rootQid || s.Dropped() != 8 {
		t.Errorf("%+v, dropped %d", x, s.Dropped())
	}
	if e := s.Forge(make([]byte, 4096)); e != api.OK {
		t.Error(e)
	}
	s = attached(t, plain)
	long := rpc.Write(rpc.Msg{Reply: true, Xid: 9, Body: make([]byte, 4080)})
	if e := s.Forge(long); len(long) != 4096 || e != api.OK {
		t.Error(len(long), e)
	}
	if x := do(t, s, stat); x.Stat.Qid != rootQid || s.Dropped() != 1 {
		t.Errorf("%+v, dropped %d", x, s.Dropped())
	}
	s.Junk(zeros(63))
	s.Forge(long)
	if x := do(t, s, stat); x.Stat.Qid != rootQid || s.Dropped() != 2 {
		t.Errorf("what is forged is not cut by 4096: %+v, dropped %d", x, s.Dropped())
	}
	junk := []byte{0, 0, 0, 0}
	s.Junk(junk)
	junk[0] = 255
	if x := do(t, s, stat); x.Stat.Qid != rootQid || s.Dead() {
		t.Error("junk is kept as it was handed in", x)
	}
}

// P23.1: records are cut by the sizes, calls and replies by turns, and what is forged takes no turn: a reply of 112 bytes behind 63 fragments may have one more, but no two.
func TestFragsByTurns(t *testing.T) {
	files := func(s *Session) {
		for i, c := range "abc" {
			do(t, s, api.Ask{Type: api.Twalk, Tag: i, Newfid: 1})
			if x := do(t, s, api.Ask{Type: api.Tcreate, Fid: 1, Name: strings.Repeat(string(c), 16), Perm: 420}); x.Type == api.Rerror {
				t.Fatalf("%+v", x)
			}
			do(t, s, api.Ask{Type: api.Tclunk, Fid: 1})
		}
		do(t, s, api.Ask{Type: api.Topen})
	}
	for _, c := range []struct {
		frags []int
		alive []bool // whether the stream lives behind the next calls
	}{
		{nil, []bool{true, true, true}},
		{[]int{100}, []bool{false}},
		{[]int{64, 4096}, []bool{true, true, true, true}},
		{[]int{4096, 64}, []bool{false}},
		{[]int{64, 4096, 4096}, []bool{true, true, false}}, // the records 10 and 11 are the next call and reply
		{[]int{64, 64, 64, 4096, 4096}, []bool{false}},
		{[]int{64, 4096, 64, 64, 64}, []bool{true, false}},
		{[]int{200, 4096, 64, 112}, []bool{true, true, true, true}},
		{[]int{200, 4096, 64, 111}, []bool{false}},
		{[]int{64, 64, 64, 4096}, []bool{true, false}},
	} {
		script := plain
		script.Frags = c.frags
		s := attached(t, script)
		files(s)
		for i, alive := range c.alive {
			record := 2*s.Calls() + 1
			size := 4096
			if len(c.frags) > 0 {
				size = c.frags[record%len(c.frags)]
			}
			if alive != (size >= 112) {
				t.Fatal("the test is wrong", c, i, record, size)
			}
			s.Junk(zeros(63))
			do(t, s, api.Ask{Type: api.Tread, Count: 1000})
			if s.Dead() == alive {
				t.Error(c, i, s.Dead())
			}
		}
	}
}

// The bytes of Out are those of chapter 18, one reply behind the other.
func TestOutBytes(t *testing.T) {
	s := session(t, plain)
	feed(t, s, api.Ask{Type: api.Tattach, Tag: 1}, api.Ask{Type: api.Tclunk, Tag: 2, Fid: 3})
	s.Serve(0)
	s.Serve(0)
	want := "\x14\x00\x00\x00\x69\x01\x00\x80\x01\x00\x00\x00\x01\x00\x00\x00\x00\x00\x00\x00" + "\x09\x00\x00\x00\x6b\x02\x00\x0b\x00"
	if out := s.Out(); !bytes.Equal(out, []byte(want)) {
		t.Errorf("%q", out)
	}
}
