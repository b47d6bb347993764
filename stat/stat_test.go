package stat

import (
	"math"
	"math/rand"
	"slices"
	"strings"
	"testing"

	"truchman/api"
)

var (
	folder = api.Attr{Handle: api.Handle{Ino: 3, Gen: 4}, Kind: api.Dir, Mode: 493, Size: 7}
	file   = api.Attr{Handle: api.Handle{Ino: 5, Gen: 6}, Kind: api.File, Mode: 420, Size: 9}
)

// P19.1: qids and stats of nodes.
func TestOf(t *testing.T) {
	if q := Qid(folder); q != (api.Qid{Dir: true, Version: 4, Path: 3}) {
		t.Error(q)
	}
	if q := Qid(file); q != (api.Qid{Version: 6, Path: 5}) {
		t.Error(q)
	}
	if q := Qid(api.Attr{}); q != (api.Qid{}) {
		t.Error(q)
	}
	if s := Of("d", folder); s != (api.Stat{Qid: api.Qid{Dir: true, Version: 4, Path: 3}, Mode: 1<<31 + 493, Name: "d"}) {
		t.Error(s)
	}
	if s := Of("", file); s != (api.Stat{Qid: api.Qid{Version: 6, Path: 5}, Mode: 420, Size: 9}) {
		t.Error(s)
	}
	if s := Of("a/b", api.Attr{Kind: 7, Size: 1}); s != (api.Stat{Size: 1, Name: "a/b"}) {
		t.Error(s)
	}
}

// P19.1: modes of opening, of every number about them.
func TestModes(t *testing.T) {
	reads, writes, cuts := []int{0, 2, 16, 18}, []int{1, 2, 17, 18}, []int{16, 17, 18}
	modes := []int{math.MinInt, math.MaxInt, 1 << 32, 1<<32 + 1, -1, -16, -14, 256, 272}
	for n := range 300 {
		modes = append(modes, n)
	}
	for _, n := range modes {
		if Reads(n) != slices.Contains(reads, n) || Writes(n) != slices.Contains(writes, n) || Cuts(n) != slices.Contains(cuts, n) {
			t.Error(n, Reads(n), Writes(n), Cuts(n))
		}
		ofFile, ofFolder := api.OK, api.IsDir
		if !slices.Contains([]int{0, 1, 2, 16, 17, 18}, n) {
			ofFile, ofFolder = api.BadMode, api.BadMode
		}
		if n == 0 {
			ofFolder = api.OK
		}
		if Opens(n, file) != ofFile || Opens(n, folder) != ofFolder || Opens(n, api.Attr{}) != ofFile || Opens(n, api.Attr{Kind: api.Dir}) != ofFolder {
			t.Error(n, Opens(n, file), Opens(n, folder))
		}
	}
}

// P19.1: what permissions say.
func TestPerm(t *testing.T) {
	for _, c := range []struct {
		perm, bits int
		dir        bool
		e          api.Errno
	}{
		{0, 0, false, api.OK}, {511, 511, false, api.OK}, {420, 420, false, api.OK},
		{1 << 31, 0, true, api.OK}, {1<<31 + 493, 493, true, api.OK}, {1<<31 + 511, 511, true, api.OK},
		{512, 0, false, api.BadMode}, {513, 0, false, api.BadMode}, {1 << 30, 0, false, api.BadMode}, {1<<31 + 512, 0, false, api.BadMode}, {1<<31 + 1<<30, 0, false, api.BadMode},
		{1 << 32, 0, false, api.BadMode}, {1<<32 + 1<<31, 0, false, api.BadMode}, {math.MaxInt, 0, false, api.BadMode}, {math.MaxUint32, 0, false, api.BadMode},
		{-1, 0, false, api.BadMode}, {-512, 0, false, api.BadMode}, {-1 << 31, 0, false, api.BadMode}, {math.MinInt, 0, false, api.BadMode}, {math.MinInt + 1<<31, 0, false, api.BadMode},
	} {
		if bits, dir, e := Perm(c.perm); bits != c.bits || dir != c.dir || e != c.e {
			t.Error(c, bits, dir, e)
		}
	}
}

// P19.2: an entry's bytes.
func TestEntry(t *testing.T) {
	for _, c := range []struct {
		e    api.Entry
		want string
	}{
		{api.Entry{Name: "a", Handle: api.Handle{Ino: 1, Gen: 2}}, "\x01\x00a\x01\x00\x00\x00\x02\x00\x00\x00"},
		{api.Entry{}, string(make([]byte, 10))},
		{api.Entry{Name: strings.Repeat("x", 300), Handle: api.Handle{Ino: math.MaxUint32, Gen: 0x01020304}}, "\x2c\x01" + strings.Repeat("x", 300) + "\xff\xff\xff\xff\x04\x03\x02\x01"},
	} {
		if got := Entry(c.e); string(got) != c.want {
			t.Errorf("%+v: %q", c.e, got)
		}
	}
}

// P19.2: as many entries as there is room for, none behind the first one for which there is none.
func TestPack(t *testing.T) {
	l := []api.Entry{{Name: "abc"}, {Name: "a"}, {Name: "abcd"}, {Name: "x"}}
	for _, c := range []struct{ room, bytes, n int }{
		{math.MinInt, 0, 0}, {-1, 0, 0}, {0, 0, 0}, {12, 0, 0}, {13, 13, 1}, {23, 13, 1}, {24, 24, 2}, {35, 24, 2}, {37, 24, 2}, {38, 38, 3}, {48, 38, 3}, {49, 49, 4}, {1000, 49, 4}, {math.MaxInt, 49, 4},
	} {
		b, n := Pack(l, c.room)
		if len(b) != c.bytes || n != c.n {
			t.Error(c, len(b), n)
		}
		got, e := Entries(b)
		if !slices.Equal(got, l[:n]) || e != api.OK {
			t.Error(c, got, e)
		}
	}
	if b, n := Pack(nil, 100); len(b) != 0 || n != 0 {
		t.Error(b, n)
	}
}

// P19.2: the entries of bytes, and the first error of them.
func TestEntries(t *testing.T) {
	a, b := "\x01\x00a\x01\x00\x00\x00\x02\x00\x00\x00", "\x01\x00b\xff\xff\xff\xff\x00\x00\x00\x00"
	bad := "\x01\x00/\x01\x00\x00\x00\x02\x00\x00\x00"
	for _, c := range []struct {
		name, b string
		n       int
		e       api.Errno
	}{
		{"none", "", 0, api.OK},
		{"one", a, 1, api.OK},
		{"two", a + b, 2, api.OK},
		{"two of one name", a + a, 2, api.OK},
		{"one and a byte", a + "\x00", 0, api.ErrShort},
		{"short", a[:10], 0, api.ErrShort},
		{"short name", "\x05\x00abcd", 0, api.ErrShort},
		{"no name", bad, 0, api.BadName},
		{"no name, short then", bad + "\x00", 0, api.BadName},
		{"no name that ends too soon", a + bad[:10], 0, api.ErrShort},
		{"no name behind one", a + bad + b, 0, api.BadName},
		{"empty name", string(make([]byte, 10)), 0, api.BadName},
		{"name of 33", "\x21\x00" + strings.Repeat("x", 33) + string(make([]byte, 8)), 0, api.BadName},
		{"name of 32", "\x20\x00" + strings.Repeat("x", 32) + string(make([]byte, 8)), 1, api.OK},
		{"..", "\x02\x00.." + string(make([]byte, 8)), 0, api.BadName},
	} {
		l, e := Entries([]byte(c.b))
		if len(l) != c.n || e != c.e {
			t.Errorf("%s: %v %d", c.name, l, e)
		}
	}
	want := []api.Entry{{Name: "a", Handle: api.Handle{Ino: 1, Gen: 2}}, {Name: "b", Handle: api.Handle{Ino: math.MaxUint32}}}
	if l, _ := Entries([]byte(a + b)); !slices.Equal(l, want) {
		t.Error(l)
	}
}

// P19.3: what is packed is told by Entries; no more bytes are packed than there is room for.
func TestPackedAndTold(t *testing.T) {
	dice := rand.New(rand.NewSource(19))
	for range 2000 {
		var l []api.Entry
		for range dice.Intn(8) {
			l = append(l, api.Entry{Name: strings.Repeat("n", 1+dice.Intn(32)), Handle: api.Handle{Ino: int(dice.Uint32()), Gen: int(dice.Uint32())}})
		}
		room := dice.Intn(300)
		b, n := Pack(l, room)
		got, e := Entries(b)
		if len(b) > room || !slices.Equal(got, l[:n]) || e != api.OK || n < len(l) && len(b)+len(Entry(l[n])) <= room {
			t.Fatal(l, room, len(b), n, got, e)
		}
	}
}
