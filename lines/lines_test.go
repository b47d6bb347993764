package lines

import (
	"fmt"
	"math"
	"slices"
	"strings"
	"testing"

	"truchman/answers"
	"truchman/api"
	"truchman/name"
	"truchman/rpc"
)

// talk does lines, each of which is to tell something.
func talk(t *testing.T, s *Shell, l ...[2]string) {
	t.Helper()
	for i, x := range l {
		if got := s.Line(x[0]); got != x[1] {
			t.Errorf("%d: %q: %q, not %q", i, x[0], got, x[1])
		}
	}
}

// P24.1: a line's words.
func TestWords(t *testing.T) {
	for line, want := range map[string][]string{
		"": nil, " ": nil, "    ": nil, "a": {"a"}, " a  b ": {"a", "b"}, "a b c": {"a", "b", "c"}, "a\tb\nc\r d\x00": {"a\tb\nc\r", "d\x00"}, "\n": {"\n"}, "\u00a0": {"\u00a0"},
	} {
		if got := Words(line); !slices.Equal(got, want) {
			t.Errorf("%q: %q", line, got)
		}
	}
}

// P24.1: replies in print.
func TestPrint(t *testing.T) {
	folder, file := api.Qid{Dir: true, Version: 2, Path: 3}, api.Qid{Version: 4, Path: 1 << 62}
	for want, x := range map[string]api.Tell{
		"0:ok":                            {Type: 107},
		"65535:no_such_name":              {Type: 107, Tag: 65535, Code: 2},
		"1:i/o_error":                     {Type: 107, Tag: 1, Code: 15},
		"2:i/o_error":                     {Type: 107, Tag: 2, Code: 65535},
		"1:too_many_requests":             {Type: 107, Tag: 1, Code: 17},
		"1:is_a_directory":                {Type: 107, Tag: 1, Code: 5},
		"1:version,1024,9P":               {Type: 101, Tag: 1, Msize: 1024, Name: "9P"},
		"1:version,0,-":                   {Type: 101, Tag: 1},
		"1:version,4294967295,a%20b,":     {Type: 101, Tag: 1, Msize: math.MaxUint32, Name: "a b,"},
		"1:attach,d3.2":                   {Type: 105, Tag: 1, Qid: folder},
		"1:attach,f4611686018427387904.4": {Type: 105, Tag: 1, Qid: file},
		"1:flush":                         {Type: 109, Tag: 1},
		"1:walk":                          {Type: 111, Tag: 1},
		"1:walk,d3.2,f4611686018427387904.4,d0.0": {Type: 111, Tag: 1, Qids: []api.Qid{folder, file, {Dir: true}}},
		"1:open,d3.2":               {Type: 113, Tag: 1, Qid: folder, Iounit: 1000},
		"1:create,f0.0":             {Type: 115, Tag: 1, Iounit: 9},
		"1:read,-":                  {Type: 117, Tag: 1},
		"1:read,%2d":                {Type: 117, Tag: 1, Data: []byte("-")},
		"1:read,a%00%ff%25":         {Type: 117, Tag: 1, Data: []byte("a\x00\xff%")},
		"1:write,7":                 {Type: 119, Tag: 1, Count: 7},
		"1:clunk":                   {Type: 121, Tag: 1},
		"1:remove":                  {Type: 123, Tag: 1},
		"1:stat,-,0,0":              {Type: 125, Tag: 1},
		"1:stat,a%20b,2147484141,9": {Type: 125, Tag: 1, Stat: api.Stat{Qid: folder, Name: "a b", Mode: 1<<31 + 493, Size: 9}},
		"1:wstat":                   {Type: 127, Tag: 1},
	} {
		if got := Print(x); got != want {
			t.Errorf("%q, not %q", got, want)
		}
	}
}

// P24.1: each line that is a request, and what is told of it.
func TestRequests(t *testing.T) {
	s := New()
	tag := 0
	reply := func(line, want string) {
		t.Helper()
		if got := s.Line(line); got != fmt.Sprint("sent ", tag) {
			t.Errorf("%q: %q", line, got)
		}
		s.Line("all")
		if got := s.Line("out"); got != fmt.Sprint(tag, ":", want) {
			t.Errorf("%q: %q, not %q", line, got, want)
		}
		tag++
	}
	reply("version 500 9P", "version,500,9P")
	reply("version 5000 -", "version,1024,unknown")
	reply("version 127 9P", "bad_message")
	reply("attach 1 who", "attach,d1.1")
	reply("attach 1 -", "fid_in_use")
	reply("walk 1 2", "walk")
	reply("create 2 d 2147484141 0", "create,d2.1")
	reply("walk 1 3 d .. d", "walk,d2.1,d1.1,d2.1")
	reply("walk 1 4 d x", "walk,d2.1")
	reply("walk 1 4 x", "no_such_name")
	reply("walk 1 4 a/b", "bad_name")
	reply("walk 1 4 -", "bad_name")
	reply("create 3 a%20b 420 2", "create,f3.1")
	reply("write 3 2 x%00y", "write,3")
	reply("write 3 9 -", "write,0")
	reply("read 3 0 100", "read,%00%00x%00y")
	reply("read 3 2 1", "read,x")
	reply("read 3 5 1", "read,-")
	reply("read 2 0 100", "read,%03%00a%20b%03%00%00%00%01%00%00%00")
	reply("read 2 1 100", "bad_cookie")
	reply("stat 3", "stat,a%20b,420,5")
	reply("stat 1", "stat,-,2147484141,0")
	reply("wstat 3 3 c", "wstat")
	reply("wstat 3 -1 -", "wstat")
	reply("stat 3", "stat,c,420,3")
	reply("wstat 3 2049 -", "too_big")
	reply("clunk 3", "clunk")
	reply("clunk 3", "bad_fid")
	reply("walk 1 3 d c", "walk,d2.1,f3.1")
	reply("open 3 17", "open,f3.1")
	reply("open 3 0", "bad_mode")
	reply("read 3 0 1", "bad_mode")
	reply("remove 2", "not_empty")
	reply("remove 3", "remove")
	reply("flush 5", "flush")
	reply("open 1 1", "is_a_directory")
	reply("open 1 0", "open,d1.1")
	reply("walk  1   5 ", "bad_mode")
}

// P24.1: bad lines, of which nothing is done, nor is the tag another one.
func TestBad(t *testing.T) {
	s := New()
	talk(t, s, [2]string{"attach 1 -", "sent 0"})
	for _, line := range []string{
		"x", "Attach 1 -", "attach", "attach 1", "attach 1 - -", "attach - -", "attach x -", "attach 1x -", "attach +1 -", "attach 1.0 -", "attach --1 -", "attach 0x1 -", "attach 1_0 -", "attach -1 -", "attach 4294967296 -",
		"attach 0000000000000000001 -", "attach 9999999999999999999 -", "attach 1 a%", "attach 1 %61", "attach 1 a\tb", "attach 1 %2D", "attach 1 \x80", "attach\n1 -",
		"attach 1 " + strings.Repeat("x", 256), "attach 1 " + strings.Repeat("x", 301),
		"version 1", "version 4294967296 -", "version -1 -", "version 1024 9P 9P",
		"walk", "walk 1", "walk 1 -", "walk 1 2 a b c d e f g h i", "walk 1 2 a % c", "walk 1 2 " + strings.Repeat("x", 256), "walk -1 2", "walk 1 4294967296",
		"open 1", "open 1 256", "open 1 -1", "open 1 0 0", "create 1 a 420", "create 1 a 4294967296 0", "create 1 a -1 0", "create 1 a 0 256", "create 1 a 0 0 0", "create a 1 0 0",
		"read 1 0", "read 1 0 -1", "read 1 -1 0", "read 1 4611686018427387905 0", "read 1 0 4294967296", "read 1 0 0 0", "write 1 0", "write 1 0 a b", "write 1 -1 a", "write 1 0 " + strings.Repeat("x", 301),
		"clunk", "clunk 1 1", "clunk a", "remove", "remove -1", "stat", "stat 1 1", "wstat 1 -2 a", "wstat 1 4294967295 a", "wstat 1 a", "wstat 1 1 a b", "flush", "flush 65536", "flush -1", "flush 1 1",
		"serve", "serve a", "serve 0 0", "serve 1000000000000000000", "serve -", "all 1", "out 1", "state 1", "forge 1 1", "forge 1 1 a a", "forge -1 1 a", "forge 1 -1 a", "forge 4294967296 1 a", "forge 1 4294967296 a", "forge 1 1 %",
		"forge 1 1 " + strings.Repeat("x", 301), "junk", "junk a b", "junk %", "junk " + strings.Repeat("x", 301), "new 1 1", "new 1 1 1 1", "new a 1 1", "new 1 1 -",
	} {
		talk(t, s, [2]string{line, "bad"}, [2]string{"state", "1 0 0 alive"})
	}
	talk(t, s, [2]string{"", ""}, [2]string{"   ", ""}, [2]string{"attach 2 -", "sent 1"}, [2]string{"all", "2"}, [2]string{"out", "0:attach,d1.1 1:attach,d1.1"})
}

// P24.1: numbers and texts at their bounds, which are not bad.
func TestBounds(t *testing.T) {
	s := New()
	long := strings.Repeat("%ff", 255)
	for i, line := range []string{
		"attach 4294967295 " + long, "attach 000000000000000007 -", "version 4294967295 " + strings.Repeat("x", 255), "walk -0 4294967295 a b c d e f g h", "open 0 255", "create 0 a 4294967295 255",
		"read 0 999999999999999999 4294967295", "write 0 999999999999999999 " + strings.Repeat("%00", 300), "wstat 0 -1 -", "wstat 0 4294967294 -", "flush 65535", "wstat 0 -000000000000000001 " + long,
	} {
		talk(t, s, [2]string{line, fmt.Sprint("sent ", i)})
		s.Line("all")
	}
	talk(t, s, [2]string{"forge 4294967295 4294967295 " + strings.Repeat("%00", 300), "ok"}, [2]string{"junk -", "ok"}, [2]string{"forge 0 0 -", "ok"}, [2]string{"serve 999999999999999999", "none"}, [2]string{"serve -999999999999999999", "none"})
}

// P24.1: serve, all, out and state.
func TestServe(t *testing.T) {
	talk(t, New(), [][2]string{
		{"out", "none"}, {"all", "0"}, {"serve 0", "none"}, {"serve -1", "none"}, {"state", "0 0 0 alive"},
		{"attach 1 -", "sent 0"}, {"attach 2 -", "sent 1"}, {"stat 1", "sent 2"}, {"state", "3 0 0 alive"}, {"out", "none"},
		{"serve 3", "none"}, {"serve 2", "ok"}, {"out", "2:bad_fid"}, {"out", "none"}, {"serve 1", "ok"}, {"state", "1 1 0 alive"},
		{"clunk 9", "sent 3"}, {"all", "2"}, {"out", "1:attach,d1.1 0:attach,d1.1 3:bad_fid"}, {"all", "0"},
		{"stat 1", "sent 4"}, {"stat 1", "sent 5"}, {"stat 1", "sent 6"}, {"stat 1", "sent 7"}, {"stat 1", "sent 8"}, {"out", "8:too_many_requests"},
		{"flush 5", "sent 9"}, {"out", "5:flushed 9:flush"}, {"all", "3"}, {"state", "0 5 0 alive"},
	}...)
}

// P24.1: the tag is one more behind each request, and 0 behind 65534.
func TestTag(t *testing.T) {
	s := New()
	for n := range 65535 {
		if got := s.Line("flush 0"); got != fmt.Sprint("sent ", n) {
			t.Fatal(n, got)
		}
		s.session.Out()
	}
	talk(t, s, [2]string{"flush 0", "sent 0"}, [2]string{"flush", "bad"}, [2]string{"flush 0", "sent 1"}, [2]string{"out", "0:flush 1:flush"})
}

// P24.1: a request too great for the client's stream is sent, and so are all behind it; nothing comes of them.
func TestTooGreat(t *testing.T) {
	long := strings.Repeat(" "+strings.Repeat("x", 255), 8)
	talk(t, New(), [][2]string{
		{"attach 1 -", "sent 0"}, {"walk 1 2" + long, "sent 1"}, {"attach 2 -", "sent 2"}, {"state", "1 0 0 alive"}, {"all", "1"}, {"out", "0:attach,d1.1"}, {"flush 0", "sent 3"}, {"out", "none"},
		{"new 1 0 1", "ok"}, {"attach 2 -", "sent 0"}, {"all", "1"}, {"out", "0:attach,d1.1"},
	}...)
}

// P24.1: forge and junk.
func TestForge(t *testing.T) {
	s := New()
	talk(t, s, [][2]string{
		{"attach 1 -", "sent 0"}, {"all", "1"}, {"out", "0:attach,d1.1"}, {"forge 7 1 -", "ok"}, {"forge 2 3 %00", "ok"}, {"stat 1", "sent 1"}, {"all", "1"}, {"out", "1:stat,-,2147484141,0"}, {"state", "0 2 2 alive"},
		{"forge 3 1 %00%00%00B", "ok"}, {"stat 1", "sent 2"}, {"all", "1"}, {"out", "2:not_empty"}, {"state", "0 3 3 alive"},
		{"junk %00%00%00%00", "ok"}, {"stat 1", "sent 3"}, {"all", "1"}, {"out", "3:stat,-,2147484141,0"},
		{"junk %ff%ff%ff%ff", "ok"}, {"stat 1", "sent 4"}, {"all", "1"}, {"out", "4:i/o_error"}, {"state", "0 5 3 dead"},
	}...)
	for range 16 {
		talk(t, s, [2]string{"junk -", "ok"})
	}
	talk(t, s, [2]string{"junk -", "error 5"}, [2]string{"forge 1 1 -", "error 5"}, [2]string{"new 16 4096 4", "ok"}, [2]string{"forge 1 1 -", "ok"}, [2]string{"state", "0 0 0 alive"})
}

// P24.1: of a reply of more bytes than a message may have nothing is told, nor of those behind it.
func TestReplyTooGreat(t *testing.T) {
	s := New()
	talk(t, s, [][2]string{{"attach 1 -", "sent 0"}, {"create 1 f 420 2", "sent 1"}, {"write 1 0 abc", "sent 2"}, {"all", "3"}, {"out", "0:attach,d1.1 1:create,f2.1 2:write,3"}}...)
	junk := func(xid uint32, n int) { // a forged reply of n bytes of data, in parts
		t.Helper()
		body, _ := answers.Write(api.Read, api.Res{Data: make([]byte, n), Count: n})
		rec := rpc.Write(rpc.Msg{Reply: true, Xid: xid, Proc: api.Read, Body: body})
		rec = append([]byte{128, 0, byte(len(rec) >> 8), byte(len(rec))}, rec...)
		for len(rec) > 0 {
			n := min(300, len(rec))
			talk(t, s, [2]string{"junk " + name.Print(string(rec[:n])), "ok"})
			rec = rec[n:]
		}
	}
	talk(t, s, [][2]string{{"read 1 0 3", "sent 3"}, {"read 1 0 3", "sent 4"}, {"read 1 1 3", "sent 5"}, {"serve 0", "ok"}}...)
	junk(5, 1014)
	talk(t, s, [][2]string{{"all", "2"}, {"out", "3:read,abc"}, {"out", "none"}, {"state", "0 6 1 alive"}, {"read 1 1 3", "sent 6"}, {"all", "1"}, {"out", "6:read,bc"}}...)
	junk(8, 1013)
	talk(t, s, [][2]string{{"read 1 0 3", "sent 7"}, {"all", "1"}, {"out", "7:read," + strings.Repeat("%00", 1013)}}...)
	junk(9, 1024)
	talk(t, s, [][2]string{{"read 1 0 3", "sent 8"}, {"all", "1"}, {"out", "none"}, {"state", "0 9 3 alive"}}...)
	junk(10, 1025)
	talk(t, s, [][2]string{{"read 1 0 3", "sent 9"}, {"read 1 0 3", "sent 10"}, {"all", "2"}, {"out", "10:read,abc"}}...)
}

// P24.1: new.
func TestNew(t *testing.T) {
	s := New()
	talk(t, s, [2]string{"attach 1 -", "sent 0"})
	for _, line := range []string{"new 0 1 1", "new 65 1 1", "new 1 -1 1", "new 1 65537 1", "new 1 1 0", "new 1 1 9", "new -1 999999999999999999 -999999999999999999"} {
		talk(t, s, [2]string{line, "no"}, [2]string{"state", "1 0 0 alive"})
	}
	talk(t, s, [][2]string{
		{"all", "1"}, {"new 2 3 1", "ok"}, {"out", "none"}, {"state", "0 0 0 alive"}, {"attach 1 -", "sent 0"}, {"stat 1", "sent 1"}, {"out", "1:too_many_requests"}, {"all", "1"}, {"out", "0:attach,d1.1"},
		{"create 1 a 420 2", "sent 2"}, {"all", "1"}, {"write 1 0 abcd", "sent 3"}, {"all", "1"}, {"write 1 0 abc", "sent 4"}, {"all", "1"}, {"attach 2 -", "sent 5"}, {"all", "1"}, {"create 2 b 420 2", "sent 6"}, {"all", "1"},
		{"out", "2:create,f2.1 3:no_space 4:write,3 5:attach,d1.1 6:no_space"}, {"new 64 65536 8", "ok"}, {"new 1 0 1", "ok"}, {"state", "0 0 0 alive"},
	}...)
}

// P24.1: the session of a new shell has the bounds that the chapter says, and calls from 1 on.
func TestBoundsOfANewShell(t *testing.T) {
	s := New()
	reply := func(line, want string) {
		t.Helper()
		s.Line(line)
		s.Line("all")
		if _, got, _ := strings.Cut(s.Line("out"), ":"); got != want {
			t.Errorf("%q: %q, not %q", line, got, want)
		}
	}
	reply("attach 0 -", "attach,d1.1")
	for n := 2; n <= 17; n++ {
		reply("walk 0 1", "walk")
		if n <= 16 {
			reply(fmt.Sprintf("create 1 f%d 420 1", n), fmt.Sprintf("create,f%d.1", n))
		} else {
			reply("create 1 more 420 1", "no_space")
		}
		reply("clunk 1", "clunk")
	}
	reply("walk 0 2 f2", "walk,f2.1")
	reply("walk 0 3 f3", "walk,f3.1")
	reply("walk 0 4 f4", "walk,f4.1")
	reply("wstat 2 2048 -", "wstat")
	reply("wstat 3 2048 -", "wstat")
	reply("wstat 4 1 -", "no_space")
	reply("wstat 3 2047 -", "wstat")
	reply("wstat 4 1 -", "wstat")
}

// P24.2: a script tells what its lines tell, a line each, up to the 200th.
func TestRun(t *testing.T) {
	for _, c := range [][2]string{
		{"", ""}, {"\n\n", ""}, {"out", "none\n"}, {"out\n", "none\n"}, {"\n out \n\n  \nstate", "none\n0 0 0 alive\n"}, {"x\nout", "bad\nnone\n"}, {"out\r\nout", "bad\nnone\n"},
		{"attach 1 -\nall\nout", "sent 0\n1\n0:attach,d1.1\n"},
		{strings.Repeat("out\n", 199) + "state\nout", strings.Repeat("none\n", 199) + "0 0 0 alive\n"},
		{strings.Repeat("\n", 199) + "state\nout", "0 0 0 alive\n"},
		{strings.Repeat("\n", 200) + "state\nout", ""},
		{strings.Repeat(" \n", 150) + strings.Repeat("out\n", 1000), strings.Repeat("none\n", 50)},
	} {
		for range 2 {
			if got := Run(c[0]); got != c[1] {
				t.Errorf("%q: %q", c[0], got)
			}
		}
	}
}

// P24.3: what was written is read, of all bytes.
func TestWrittenIsRead(t *testing.T) {
	s := New()
	s.Line("attach 1 -")
	s.Line("all")
	s.Line("create 1 f 420 2")
	s.Line("all")
	s.Line("out")
	for n := range 256 {
		b := strings.Repeat(string([]byte{byte(n)}), 1+n%40)
		s.Line("write 1 3 " + name.Print(b))
		s.Line("all")
		s.Line("out")
		s.Line(fmt.Sprintf("read 1 3 %d", len(b)))
		s.Line("all")
		if got := s.Line("out"); !strings.HasSuffix(got, ":read,"+name.Print(b)) {
			t.Errorf("%q: %q", b, got)
		}
	}
}
