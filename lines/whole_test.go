package lines

import (
	"bytes"
	"fmt"
	"math"
	"math/rand"
	"slices"
	"strings"
	"testing"

	"truchman/api"
	"truchman/ask"
	"truchman/codes"
	"truchman/demark"
	"truchman/fsys"
	"truchman/inode"
	"truchman/little"
	"truchman/mark"
	"truchman/mux"
	"truchman/pipe"
	"truchman/rpc"
	"truchman/session"
	"truchman/stat"
	"truchman/xdr"
)

// drained is the pieces in which bytes come through a pipe.
func drained(t *testing.T, b []byte, sizes ...int) [][]byte {
	t.Helper()
	p, e := pipe.New(sizes...)
	if e != api.OK {
		t.Fatal(sizes, e)
	}
	p.Send(b)
	return p.Drain()
}

// T1: records that are cut, sent in pieces and put together again are the same, in their row, and nothing is left over.
func TestRecords(t *testing.T) {
	dice := rand.New(rand.NewSource(1))
	for range 300 {
		var recs, got [][]byte
		var sizes []int
		for range dice.Intn(6) {
			rec := make([]byte, []int{0, 1, dice.Intn(100), dice.Intn(4097), 4096}[dice.Intn(5)])
			dice.Read(rec)
			recs = append(recs, rec)
		}
		for range dice.Intn(4) {
			sizes = append(sizes, 64+dice.Intn(5000))
		}
		all, e := mark.All(sizes, recs...)
		d, f := demark.New(api.MaxRecord, api.MaxFrags)
		if e != api.OK || f != api.OK {
			t.Fatal(sizes, e, f)
		}
		for _, piece := range drained(t, all, dice.Intn(3), 1+dice.Intn(3000), 0) {
			got = append(got, d.Feed(piece)...)
		}
		if !slices.EqualFunc(got, recs, bytes.Equal) || d.Errno() != api.OK || d.Held() != 0 || !d.Clean() {
			t.Fatal("other than they were", sizes, len(got), len(recs), d.Errno(), d.Held())
		}
	}
}

// T2: every bytes, however they are cut: the same records, the same error, and no more bytes are kept than may be.
func TestPieces(t *testing.T) {
	dice := rand.New(rand.NewSource(2))
	for range 500 {
		b := make([]byte, dice.Intn(200))
		for i := range b {
			b[i] = []byte{0, 0, 0, 128, byte(dice.Intn(9)), byte(dice.Intn(256))}[dice.Intn(6)]
		}
		most, frags := dice.Intn(12), 1+dice.Intn(4)
		one, _ := demark.New(most, frags)
		want := one.Feed(b)
		two, _ := demark.New(most, frags)
		var got [][]byte
		for _, piece := range drained(t, b, dice.Intn(3), 1+dice.Intn(9)) {
			dead := two.Errno() != api.OK
			there := two.Feed(piece)
			if dead && len(there) > 0 || two.Held() > most+4 {
				t.Fatal("told behind an error, or kept", len(there), two.Held())
			}
			got = append(got, there...)
		}
		if !slices.EqualFunc(got, want, bytes.Equal) || one.Errno() != two.Errno() {
			t.Fatal("other by pieces", b, got, want, one.Errno(), two.Errno())
		}
	}
}

// ways is scripts of sessions with the bounds of one, in other pieces and cuts, and from other numbers of calls on.
func ways(s session.Script) []session.Script {
	var l []session.Script
	for _, front := range [][]int{nil, {1}, {0, 3, 0, 200}} {
		for _, back := range [][]int{nil, {1}, {0, 5, 1000}} {
			for _, frags := range [][]int{nil, {64}, {4096, 65, 100}} {
				for _, first := range []uint32{0, 1, math.MaxUint32 - 2} {
					l = append(l, session.Script{Nodes: s.Nodes, Room: s.Room, Most: s.Most, First: first, Front: front, Back: back, Frags: frags})
				}
			}
		}
	}
	return l
}

// shell is a shell with a session of a script.
func shell(t *testing.T, how session.Script) *Shell {
	t.Helper()
	s, e := session.New(how)
	if e != api.OK {
		t.Fatal(how, e)
	}
	return &Shell{session: s}
}

// tree is requests, one at a time, and what a tree of files of 4 nodes and 10 bytes tells of each, from the empty tree on.
var tree = [][2]string{
	{"stat 0", "bad_fid"},
	{"version 1024 9P", "version,1024,9P"},
	{"attach 0 -", "attach,d1.1"},
	{"stat 0", "stat,-,2147484141,0"},
	{"walk 0 1", "walk"},
	{"create 1 b 420 2", "create,f2.1"},
	{"write 1 0 hello", "write,5"},
	{"write 1 7 abcd", "no_space"},
	{"write 1 7 abc", "write,3"},
	{"write 1 2048 -", "write,0"},
	{"write 1 2048 x", "too_big"},
	{"read 1 0 4096", "read,hello%00%00abc"},
	{"read 1 3 4", "read,lo%00%00"},
	{"read 1 10 4", "read,-"},
	{"stat 1", "stat,b,420,10"},
	{"walk 1 2", "bad_mode"},
	{"walk 0 2", "walk"},
	{"create 2 b 420 0", "name_exists"},
	{"create 2 a/b 420 0", "bad_name"},
	{"create 2 a 512 0", "bad_mode"},
	{"create 2 a 2147484141 1", "is_a_directory"},
	{"create 2 a 2147484141 0", "create,d3.1"},
	{"stat 2", "stat,a,2147484141,0"},
	{"read 2 0 100", "read,-"},
	{"walk 0 3 a", "walk,d3.1"},
	{"create 3 c 384 1", "create,f4.1"},
	{"read 3 0 1", "bad_mode"},
	{"write 3 0 z", "no_space"},
	{"read 2 0 100", "read,%01%00c%04%00%00%00%01%00%00%00"},
	{"read 2 11 100", "read,-"},
	{"read 2 5 100", "bad_cookie"},
	{"walk 0 4 a c", "walk,d3.1,f4.1"},
	{"walk 0 5 a c x", "walk,d3.1,f4.1"},
	{"walk 0 5 a .. b", "walk,d3.1,d1.1,f2.1"},
	{"create 4 x 420 0", "not_a_directory"},
	{"walk 0 6 a", "walk,d3.1"},
	{"create 6 x 420 0", "no_space"},
	{"remove 6", "not_empty"},
	{"remove 6", "bad_fid"},
	{"wstat 4 -1 d", "wstat"},
	{"wstat 3 -1 e", "no_such_name"},
	{"stat 3", "stat,c,384,0"},
	{"stat 4", "stat,d,384,0"},
	{"wstat 4 2049 e", "too_big"},
	{"stat 4", "stat,e,384,0"},
	{"walk 0 6 a d", "walk,d3.1"},
	{"walk 0 6 a e", "walk,d3.1,f4.1"},
	{"remove 4", "remove"},
	{"stat 3", "stale"},
	{"write 3 0 z", "stale"},
	{"remove 6", "no_such_name"},
	{"walk 0 6 a", "walk,d3.1"},
	{"create 6 e 420 0", "create,f4.2"},
	{"remove 3", "no_such_name"},
	{"open 5 17", "open,f2.1"},
	{"read 1 0 10", "read,-"},
	{"wstat 5 3 b", "wstat"},
	{"read 1 0 10", "read,%00%00%00"},
	{"attach 6 -", "fid_in_use"},
	{"remove 6", "remove"},
	{"remove 2", "remove"},
	{"walk 0 2 a", "no_such_name"},
	{"open 0 0", "open,d1.1"},
	{"read 0 0 100", "read,%01%00b%02%00%00%00%01%00%00%00"},
	{"clunk 0", "clunk"},
	{"version 127 9P", "bad_message"},
	{"clunk 1", "clunk"},
	{"version 128 other", "version,128,unknown"},
	{"clunk 5", "bad_fid"},
}

// T3: requests sent one at a time are replied as a tree of files does, whatever the pieces, the cuts and the capacity of the queue.
func TestTree(t *testing.T) {
	for most := range 8 {
		for _, how := range ways(session.Script{Nodes: 4, Room: 10, Most: most + 1}) {
			s := shell(t, how)
			for i, x := range tree {
				sent, served := s.Line(x[0]), s.Line("serve 0")
				if got := s.Line("out"); sent != fmt.Sprint("sent ", i) || served != "ok" || got != fmt.Sprint(i, ":", x[1]) {
					t.Fatalf("%+v: %s: %s, %s, %s, not %s", how, x[0], sent, served, got, x[1])
				}
			}
			if got := s.Line("state"); !strings.HasPrefix(got, "0 ") || !strings.HasSuffix(got, " 0 alive") {
				t.Error(got)
			}
		}
	}
}

// rows is all rows of the numbers below n.
func rows(n int) [][]int {
	if n == 0 {
		return [][]int{nil}
	}
	var l [][]int
	for _, r := range rows(n - 1) {
		for at := range n {
			l = append(l, slices.Insert(slices.Clone(r), at, n-1))
		}
	}
	return l
}

// T4: requests that wait at once, served in any row, are replied as a tree of files does in that row, each just once.
func TestTags(t *testing.T) {
	begin := []string{"attach 0 -", "walk 0 1", "walk 0 2", "walk 0 3", "create 3 a 420 2"}
	waits := []string{"create 1 b 420 2", "wstat 3 4 b", "walk 0 4 b", "remove 3", "create 2 a 420 2"}
	for _, row := range rows(len(waits)) {
		one, two := New(), shell(t, session.Script{Nodes: 16, Room: 4096, Most: 6, First: math.MaxUint32, Front: []int{3}, Back: []int{2, 0}, Frags: []int{64, 70}})
		for _, line := range begin {
			for _, s := range []*Shell{one, two} {
				s.Line(line)
				s.Line("serve 0")
				s.Line("out")
			}
		}
		for _, line := range append(waits, "clunk 9") {
			two.Line(line)
		}
		if got := two.Line("clunk 9"); got != "sent 11" || two.Line("out") != "11:too_many_requests" {
			t.Error(got)
		}
		if two.Line("flush 10") != "sent 12" || two.Line("out") != "10:flushed 12:flush" {
			t.Error("not flushed")
		}
		two.tag = 7
		if two.Line("clunk 0") != "sent 7" || two.Line("out") != "7:tag_in_use" {
			t.Error("a tag twice")
		}
		left := []int{0, 1, 2, 3, 4}
		for _, n := range row {
			k := slices.Index(left, n)
			left = slices.Delete(left, k, k+1)
			one.Line(waits[n])
			one.Line("serve 0")
			_, want, _ := strings.Cut(one.Line("out"), ":")
			if told := two.Line(fmt.Sprint("serve ", k)); told != "ok" {
				t.Fatal(told)
			}
			if got := two.Line("out"); got != fmt.Sprint(5+n, ":", want) {
				t.Errorf("%v: %s: %s, not %s", row, waits[n], got, want)
			}
		}
		if got := two.Line("all"); got != "0" {
			t.Error(got)
		}
	}
}

// T5: replies of another number or procedure change nothing; of what is no reply, or too great, each request that asks the server gets the fixed error ever after.
func TestForged(t *testing.T) {
	for _, how := range ways(session.Script{Nodes: 4, Room: 10, Most: 4})[:27] {
		s := shell(t, how)
		dropped := 0
		for i, x := range tree {
			next := how.First + uint32(s.session.Calls())
			before := s.session.Calls()
			s.Line(fmt.Sprintf("forge %d %d %%00%%00%%00%%00", next+1, 1+i%16))
			s.Line(fmt.Sprintf("forge %d 99 %%00%%00%%00%%02", next))
			s.Line(fmt.Sprintf("forge %d %d -", next-1, 1+i%16))
			s.Line(x[0])
			s.Line("serve 0")
			if got := s.Line("out"); got != fmt.Sprint(i, ":", x[1]) {
				t.Fatalf("%+v: %s: %s, not %s", how, x[0], got, x[1])
			}
			if s.session.Calls() > before {
				dropped++
			}
		}
		if dropped == 0 || s.session.Dropped() < 3*dropped || s.session.Dead() {
			t.Error(s.session.Dropped(), dropped)
		}
		s.Line("version 1024 9P")
		s.Line("all")
		s.Line("attach 0 -")
		s.Line("all")
		s.Line("out")
		s.Line([]string{"junk %00%00%10%01", "junk %80%00%00%01x", "junk %ff%ff%ff%ff"}[int(how.First%3)])
		for _, x := range [][2]string{{"stat 0", "i/o_error"}, {"walk 0 1 b", "i/o_error"}, {"walk 0 1", "walk"}, {"stat 1", "i/o_error"}, {"open 0 0", "i/o_error"}, {"attach 3 -", "i/o_error"}, {"stat 9", "bad_fid"}, {"clunk 0", "clunk"}, {"version 128 9P", "version,128,9P"}, {"attach 0 -", "i/o_error"}} {
			s.Line(x[0])
			s.Line("all")
			if _, got, _ := strings.Cut(s.Line("out"), ":"); got != x[1] {
				t.Errorf("%s: %s, not %s", x[0], got, x[1])
			}
		}
		if !strings.HasSuffix(s.Line("state"), " dead") {
			t.Error(s.Line("state"))
		}
	}
}

// The document's ten examples of the whole.
func TestTenExamples(t *testing.T) {
	if b := xdr.Text(nil, []byte("ab")); !bytes.Equal(b, []byte{0, 0, 0, 2, 97, 98, 0, 0}) {
		t.Error(1, b)
	}
	if b := little.Pack(100, 65535, nil); !bytes.Equal(b, []byte{7, 0, 0, 0, 100, 255, 255}) {
		t.Error(2, b)
	}
	if b, e := mark.Mark([]byte("abc"), 2); !bytes.Equal(b, []byte{0, 0, 0, 2, 97, 98, 128, 0, 0, 1, 99}) || e != api.OK {
		t.Error(3, b, e)
	}
	m, _ := mux.New[string](4294967295, 2)
	first, _ := m.Call(1, "")
	second, _ := m.Call(1, "")
	if first != 4294967295 || second != 0 {
		t.Error(4, first, second)
	}
	if codes.Status(api.NoEnt) != 2 || codes.Code(api.NoEnt) != 2 {
		t.Error(5)
	}
	table, _ := inode.New[int](4)
	a, _ := table.Add(0)
	table.Remove(a)
	b, _ := table.Add(0)
	if a != (api.Handle{Ino: 1, Gen: 1}) || b != (api.Handle{Ino: 1, Gen: 2}) {
		t.Error(6, a, b)
	}
	fs, _ := fsys.New(2, 10)
	one := fs.Do(api.Args{Proc: api.Create, H: fs.Root(), Name: "a"})
	two := fs.Do(api.Args{Proc: api.Create, H: fs.Root(), Name: "b"})
	if one.Errno != api.OK || two.Errno != api.NoSpace {
		t.Error(7, one, two)
	}
	if b, e := ask.Write(api.Ask{Type: api.Tclunk, Fid: 3, Tag: 1}); !bytes.Equal(b, []byte{11, 0, 0, 0, 120, 1, 0, 3, 0, 0, 0}) || e != api.OK {
		t.Error(8, b, e)
	}
	if b := stat.Entry(api.Entry{Name: "a", Handle: api.Handle{Ino: 1, Gen: 2}}); !bytes.Equal(b, []byte{1, 0, 97, 1, 0, 0, 0, 2, 0, 0, 0}) {
		t.Error(9, b)
	}
	if got := Run("attach 1 -\nall\nout"); got != "sent 0\n1\n0:attach,d1.1\n" {
		t.Error(10, got)
	}
}

// The examples of the chapters that are none of these.
func TestExamplesOfTheChapters(t *testing.T) {
	d, _ := demark.New(9, 9)
	if recs := d.Feed([]byte{0, 0, 0, 1, 97, 128, 0, 0, 1, 98}); len(recs) != 1 || string(recs[0]) != "ab" {
		t.Error(recs)
	}
	if l := drained(t, []byte("abc"), 2, 0); len(l) != 3 || string(l[0]) != "ab" || len(l[1]) != 0 || string(l[2]) != "c" {
		t.Error(l)
	}
	if b := rpc.Write(rpc.Msg{Xid: 7, Proc: 3}); len(b) != 24 {
		t.Error(b)
	}
	s := New()
	for _, line := range []string{"attach 1 -", "all", "out", "walk 1 1 none", "all"} {
		s.Line(line)
	}
	if got := s.Line("out"); got != "1:no_such_name" {
		t.Error(got)
	}
}
