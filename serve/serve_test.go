package serve

import (
	"bytes"
	"fmt"
	"math"
	"math/rand"
	"sync"
	"testing"

	"truchman/answers"
	"truchman/api"
	"truchman/calls"
	"truchman/fsys"
	"truchman/rpc"
)

func server(t *testing.T, nodes, room int) *Server {
	t.Helper()
	s, e := New(nodes, room)
	if e != api.OK || s == nil {
		t.Fatal(e)
	}
	return s
}

// record is the call of a procedure.
func record(t *testing.T, xid uint32, a api.Args) []byte {
	t.Helper()
	body, e := calls.Write(a)
	if e != api.OK {
		t.Fatal(a, e)
	}
	return rpc.Write(rpc.Msg{Xid: xid, Proc: uint32(a.Proc), Body: body})
}

// told is what the reply to a call tells, which is to have its number and procedure.
func told(t *testing.T, s *Server, xid uint32, a api.Args) api.Res {
	t.Helper()
	rec, ok := s.Serve(record(t, xid, a))
	m, err := rpc.Read(rec)
	if !ok || err != nil || !m.Reply || m.Xid != xid || m.Proc != uint32(a.Proc) || len(rec) > api.MaxRecord {
		t.Fatal(a, rec, ok, err)
	}
	r, e := answers.Read(a.Proc, m.Body)
	if e != api.OK {
		t.Fatal(a, rec, e)
	}
	return r
}

// P16.1: a server of a file system, with its errors.
func TestNew(t *testing.T) {
	for _, c := range [][2]int{{0, 0}, {65, 0}, {1, -1}, {1, 65537}, {math.MinInt, math.MaxInt}} {
		if s, e := New(c[0], c[1]); s != nil || e != api.ErrArg {
			t.Error(c, e)
		}
	}
	s := server(t, 64, 65536)
	if s.Served() != 0 || s.Nodes() != 1 || s.Used() != 0 || s.Root() != (api.Handle{Ino: 1, Gen: 1}) {
		t.Error(s.Served(), s.Nodes())
	}
}

// P16.2: a call of a procedure has a reply, and is done once.
func TestServe(t *testing.T) {
	s := server(t, 4, 20)
	root := s.Root()
	kid := api.Handle{Ino: 2, Gen: 1}
	for i, c := range []struct {
		a    api.Args
		want api.Res
	}{
		{api.Args{Proc: api.Getattr, H: root}, api.Res{Attr: api.Attr{Handle: root, Kind: api.Dir, Mode: 493}}},
		{api.Args{Proc: api.Create, H: root, Name: "a", Mode: 420}, api.Res{Attr: api.Attr{Handle: kid, Kind: api.File, Mode: 420}}},
		{api.Args{Proc: api.Create, H: root, Name: "a"}, api.Res{Errno: api.Exist}},
		{api.Args{Proc: api.Write, H: kid, Off: 1, Data: []byte("bc")}, api.Res{Count: 2, Attr: api.Attr{Handle: kid, Kind: api.File, Mode: 420, Size: 3}}},
		{api.Args{Proc: api.Read, H: kid, Count: math.MaxUint32}, api.Res{Data: []byte("\x00bc"), Count: 3, EOF: true}},
		{api.Args{Proc: api.Readdir, H: root, Count: math.MaxUint32}, api.Res{Entries: []api.Entry{{Name: "a", Handle: kid}}, EOF: true}},
		{api.Args{Proc: api.Lookup, H: root, Name: "b"}, api.Res{Errno: api.NoEnt}},
		{api.Args{Proc: api.Rename, H: root, Name: "a", H2: root, Name2: "b"}, api.Res{}},
		{api.Args{Proc: api.Setsize, H: kid, Size: 21}, api.Res{Errno: api.NoSpace}},
		{api.Args{Proc: api.Remove, H: root, Name: "b"}, api.Res{}},
		{api.Args{Proc: api.Getattr, H: kid}, api.Res{Errno: api.Stale}},
	} {
		if r := told(t, s, uint32(i)*math.MaxUint32, c.a); !answers.Same(r, c.want) {
			t.Errorf("%+v: %+v", c.a, r)
		}
		if s.Served() != i+1 {
			t.Error(i, s.Served())
		}
	}
}

// P16.2: a body that is not of its form is told as ErrForm alone, and nothing is done.
func TestBadBody(t *testing.T) {
	s := server(t, 4, 20)
	good, _ := calls.Write(api.Args{Proc: api.Create, H: s.Root(), Name: "a"})
	for _, body := range [][]byte{nil, good[:len(good)-1], append(good[:len(good):len(good)], 0), good[:8]} {
		rec, ok := s.Serve(rpc.Write(rpc.Msg{Xid: 9, Proc: api.Create, Body: body}))
		want := rpc.Write(rpc.Msg{Reply: true, Xid: 9, Proc: api.Create, Body: []byte{0, 0, 39, 123}})
		if !ok || !bytes.Equal(rec, want) || s.Nodes() != 1 {
			t.Error(body, rec, ok)
		}
	}
	if s.Served() != 4 {
		t.Error(s.Served())
	}
	for _, proc := range calls.Procs() {
		rec, ok := s.Serve(rpc.Write(rpc.Msg{Proc: uint32(proc), Body: []byte{1}}))
		if m, err := rpc.Read(rec); !ok || err != nil || !bytes.Equal(m.Body, []byte{0, 0, 39, 123}) {
			t.Error(proc, rec, ok)
		}
	}
}

// P16.2: what is no call of a procedure has no reply.
func TestNoCall(t *testing.T) {
	s := server(t, 4, 20)
	body, _ := calls.Write(api.Args{Proc: api.Getattr, H: s.Root()})
	call := rpc.Write(rpc.Msg{Proc: api.Getattr, Body: body})
	for _, rec := range [][]byte{
		nil, call[:23], {1, 2, 3},
		rpc.Write(rpc.Msg{Reply: true, Proc: api.Getattr, Body: body}),
		rpc.Write(rpc.Msg{Proc: 0, Body: body}), rpc.Write(rpc.Msg{Proc: 4, Body: body}), rpc.Write(rpc.Msg{Proc: 17}), rpc.Write(rpc.Msg{Proc: math.MaxUint32}),
		append([]byte{0, 0, 0, 7, 0, 0, 0, 9}, call[8:]...),
		append([]byte{0, 0, 0, 7, 0, 0, 0, 0, 0, 0, 0, 3}, call[12:]...),
	} {
		if b, ok := s.Serve(rec); len(b) != 0 || ok || s.Served() != 0 {
			t.Error(rec, b, ok)
		}
	}
	if _, ok := s.Serve(call); !ok || s.Served() != 1 {
		t.Error("a call has no reply")
	}
}

// P16.3: a reply has at most 4096 bytes, of the greatest directories and files, too.
func TestGreatest(t *testing.T) {
	s := server(t, 64, 65536)
	for i := range 63 {
		told(t, s, 1, api.Args{Proc: api.Create, H: s.Root(), Name: fmt.Sprintf("%032d", i)})
	}
	if r := told(t, s, 2, api.Args{Proc: api.Readdir, H: s.Root(), Count: math.MaxUint32}); len(r.Entries) != 63 || !r.EOF {
		t.Error(len(r.Entries))
	}
	h := api.Handle{Ino: 2, Gen: 1}
	told(t, s, 3, api.Args{Proc: api.Write, H: h, Data: bytes.Repeat([]byte{7}, 2048)})
	if r := told(t, s, 4, api.Args{Proc: api.Read, H: h, Count: math.MaxUint32}); len(r.Data) != 2048 || !r.EOF {
		t.Error(len(r.Data))
	}
}

// P16.3: what is told is what the file system does.
func TestAsTheFileSystem(t *testing.T) {
	dice := rand.New(rand.NewSource(16))
	s, f := server(t, 8, 100), (*fsys.FS)(nil)
	f, _ = fsys.New(8, 100)
	for i := range 5000 {
		a := api.Args{Proc: calls.Procs()[dice.Intn(11)], H: api.Handle{Ino: 1 + dice.Intn(9), Gen: 1 + dice.Intn(3)}}
		name := func() string { return []string{"a", "b", "c", "..", ""}[dice.Intn(5)] }
		switch a.Proc {
		case api.Setsize:
			a.Size = dice.Intn(60)
		case api.Lookup, api.Remove, api.Rmdir:
			a.Name = name()
		case api.Read, api.Readdir:
			a.Off, a.Count = dice.Intn(4), dice.Intn(70)
		case api.Write:
			a.Off, a.Data = dice.Intn(40), make([]byte, dice.Intn(20))
		case api.Create, api.Mkdir:
			a.Name, a.Mode = name(), dice.Intn(512)
		case api.Rename:
			a.Name, a.Name2, a.H2 = name(), name(), api.Handle{Ino: 1 + dice.Intn(9), Gen: 1 + dice.Intn(3)}
		}
		if got, want := told(t, s, uint32(i), a), f.Do(a); !answers.Same(got, want) {
			t.Fatalf("%+v: %+v, not %+v", a, got, want)
		}
	}
	if s.Served() != 5000 || s.Nodes() != f.Nodes() || s.Used() != f.Used() {
		t.Error(s.Served(), s.Nodes(), s.Used())
	}
}

// The file system is asked behind a mutex: calls of several hands do not meet.
func TestManyHands(t *testing.T) {
	s := server(t, 64, 65536)
	rec := record(t, 1, api.Args{Proc: api.Write, H: api.Handle{Ino: 2, Gen: 1}, Data: []byte("abc")})
	told(t, s, 1, api.Args{Proc: api.Create, H: s.Root(), Name: "a"})
	var all sync.WaitGroup
	for range 8 {
		all.Go(func() {
			for range 100 {
				s.Serve(rec)
			}
		})
	}
	all.Wait()
	if s.Served() != 801 {
		t.Error(s.Served())
	}
}
