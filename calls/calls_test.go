package calls

import (
	"bytes"
	"fmt"
	"math"
	"math/rand"
	"slices"
	"strings"
	"testing"

	"truchman/api"
)

const top = math.MaxUint32

var one, two = api.Handle{Ino: 1, Gen: 2}, api.Handle{Ino: top, Gen: top}

// laid is what may be, and its bytes.
var laid = []struct {
	a api.Args
	b string
}{
	{api.Args{Proc: api.Getattr, H: one}, "\x00\x00\x00\x01\x00\x00\x00\x02"},
	{api.Args{Proc: api.Getattr}, "\x00\x00\x00\x00\x00\x00\x00\x00"},
	{api.Args{Proc: api.Getattr, H: two}, "\xff\xff\xff\xff\xff\xff\xff\xff"},
	{api.Args{Proc: api.Setsize, H: one, Size: 0x01020304}, "\x00\x00\x00\x01\x00\x00\x00\x02\x01\x02\x03\x04"},
	{api.Args{Proc: api.Setsize, H: one, Size: top}, "\x00\x00\x00\x01\x00\x00\x00\x02\xff\xff\xff\xff"},
	{api.Args{Proc: api.Lookup, H: one, Name: ".."}, "\x00\x00\x00\x01\x00\x00\x00\x02\x00\x00\x00\x02..\x00\x00"},
	{api.Args{Proc: api.Lookup, H: one, Name: strings.Repeat("/", 64)}, "\x00\x00\x00\x01\x00\x00\x00\x02\x00\x00\x00\x40" + strings.Repeat("/", 64)},
	{api.Args{Proc: api.Remove, H: one, Name: "a"}, "\x00\x00\x00\x01\x00\x00\x00\x02\x00\x00\x00\x01a\x00\x00\x00"},
	{api.Args{Proc: api.Rmdir, H: one}, "\x00\x00\x00\x01\x00\x00\x00\x02\x00\x00\x00\x00"},
	{api.Args{Proc: api.Read, H: one, Off: 1 << 62, Count: 5}, "\x00\x00\x00\x01\x00\x00\x00\x02\x40\x00\x00\x00\x00\x00\x00\x00\x00\x00\x00\x05"},
	{api.Args{Proc: api.Readdir, H: one, Off: 3, Count: top}, "\x00\x00\x00\x01\x00\x00\x00\x02\x00\x00\x00\x00\x00\x00\x00\x03\xff\xff\xff\xff"},
	{api.Args{Proc: api.Write, H: one, Off: 7, Data: []byte("hello")}, "\x00\x00\x00\x01\x00\x00\x00\x02\x00\x00\x00\x00\x00\x00\x00\x07\x00\x00\x00\x05hello\x00\x00\x00"},
	{api.Args{Proc: api.Write, H: one, Data: make([]byte, 2048)}, "\x00\x00\x00\x01\x00\x00\x00\x02\x00\x00\x00\x00\x00\x00\x00\x00\x00\x00\x08\x00" + string(make([]byte, 2048))},
	{api.Args{Proc: api.Create, H: one, Name: "a", Mode: 511}, "\x00\x00\x00\x01\x00\x00\x00\x02\x00\x00\x00\x01a\x00\x00\x00\x00\x00\x01\xff"},
	{api.Args{Proc: api.Mkdir, H: one, Name: "ab", Mode: top}, "\x00\x00\x00\x01\x00\x00\x00\x02\x00\x00\x00\x02ab\x00\x00\xff\xff\xff\xff"},
	{api.Args{Proc: api.Rename, H: one, Name: "a", H2: two, Name2: "b"}, "\x00\x00\x00\x01\x00\x00\x00\x02\x00\x00\x00\x01a\x00\x00\x00\xff\xff\xff\xff\xff\xff\xff\xff\x00\x00\x00\x01b\x00\x00\x00"},
}

// P14.1, P14.3: what may be is laid, field by field, and read as it was.
func TestLaid(t *testing.T) {
	for _, c := range laid {
		if !May(c.a) {
			t.Errorf("%+v may not be", c.a)
		}
		if b, e := Write(c.a); string(b) != c.b || e != api.OK {
			t.Errorf("%+v: %q %d", c.a, b, e)
		}
		if a, e := Read(c.a.Proc, []byte(c.b)); !Same(a, c.a) || e != api.OK {
			t.Errorf("%q: %+v %d", c.b, a, e)
		}
	}
}

// fieldsOf is, in words, what each procedure has.
var fieldsOf = map[int]string{
	api.Getattr: "H", api.Setsize: "H Size", api.Lookup: "H Name", api.Remove: "H Name", api.Rmdir: "H Name",
	api.Read: "H Off Count", api.Readdir: "H Off Count", api.Write: "H Off Data",
	api.Create: "H Name Mode", api.Mkdir: "H Name Mode", api.Rename: "H Name H2 Name2",
}

// set is a change of a field, which may be of the greatest, or may not be.
type set struct {
	field string
	do    func(a *api.Args)
	may   bool
}

func sets() []set {
	l := []set{
		{"Name", func(a *api.Args) { a.Name = strings.Repeat("\xff", 64) }, true},
		{"Name", func(a *api.Args) { a.Name = strings.Repeat("x", 65) }, false},
		{"Name2", func(a *api.Args) { a.Name2 = strings.Repeat("\x00", 64) }, true},
		{"Name2", func(a *api.Args) { a.Name2 = strings.Repeat("x", 65) }, false},
		{"Data", func(a *api.Args) { a.Data = make([]byte, 2048) }, true},
		{"Data", func(a *api.Args) { a.Data = make([]byte, 2049) }, false},
		{"Off", func(a *api.Args) { a.Off = 1 << 62 }, true},
		{"Off", func(a *api.Args) { a.Off = 1<<62 + 1 }, false},
		{"Off", func(a *api.Args) { a.Off = -1 }, false},
	}
	for field, at := range map[string]func(a *api.Args) *int{
		"H": func(a *api.Args) *int { return &a.H.Ino }, "H ": func(a *api.Args) *int { return &a.H.Gen },
		"H2": func(a *api.Args) *int { return &a.H2.Ino }, "H2 ": func(a *api.Args) *int { return &a.H2.Gen },
		"Size": func(a *api.Args) *int { return &a.Size }, "Count": func(a *api.Args) *int { return &a.Count }, "Mode": func(a *api.Args) *int { return &a.Mode },
	} {
		for n, may := range map[int]bool{1: true, top: true, top + 1: false, -1: false, math.MaxInt: false, math.MinInt: false} {
			l = append(l, set{strings.TrimSpace(field), func(a *api.Args) { *at(a) = n }, may})
		}
	}
	return l
}

// P14.1: what may not be: a field out of its bounds, or one that the procedure does not have.
func TestMay(t *testing.T) {
	for _, proc := range Procs() {
		if !May(api.Args{Proc: proc}) {
			t.Error("nothing but zeros", proc)
		}
		for _, s := range sets() {
			a := api.Args{Proc: proc}
			s.do(&a)
			may := s.may && slices.Contains(strings.Fields(fieldsOf[proc]), s.field)
			if May(a) != may {
				t.Errorf("%+v", a)
			}
			b, e := Write(a)
			if may && e != api.OK || !may && (e != api.ErrArg || len(b) != 0) {
				t.Errorf("%+v: %q %d", a, b, e)
			}
			if got, e := Read(proc, b); may && (!Same(got, a) || e != api.OK) {
				t.Errorf("%+v: %+v %d", a, got, e)
			}
		}
	}
	for _, proc := range []int{0, -1, 4, 5, 10, 11, 15, 17, 1 << 32, 1<<32 + 1, math.MinInt} {
		if b, e := Write(api.Args{Proc: proc}); May(api.Args{Proc: proc}) || len(b) != 0 || e != api.ErrArg {
			t.Error(proc, b, e)
		}
		if a, e := Read(proc, make([]byte, 8)); !Same(a, api.Args{}) || e != api.ErrForm {
			t.Error(proc, a, e)
		}
		if a, e := Read(proc, nil); !Same(a, api.Args{}) || e != api.ErrForm {
			t.Error(proc, a, e)
		}
	}
	if a := (api.Args{Proc: api.Getattr, Data: []byte{}}); !May(a) {
		t.Error("an empty list is none")
	}
}

// P14.1: all procedures, in new memory.
func TestProcs(t *testing.T) {
	for range 2 {
		l := Procs()
		if !slices.Equal(l, []int{1, 2, 3, 6, 7, 8, 9, 12, 13, 14, 16}) {
			t.Error(l)
		}
		clear(l)
	}
}

// P14.2: the first error of reading, in its row.
func TestReadErrors(t *testing.T) {
	zeros := func(n int) string { return string(make([]byte, n)) }
	for _, c := range []struct {
		name string
		proc int
		b    string
		e    api.Errno
	}{
		{"Getattr, none", api.Getattr, "", api.ErrShort},
		{"Getattr, short", api.Getattr, zeros(7), api.ErrShort},
		{"Getattr, more", api.Getattr, zeros(9), api.ErrForm},
		{"Setsize, short", api.Setsize, zeros(11), api.ErrShort},
		{"Setsize, more", api.Setsize, zeros(16), api.ErrForm},
		{"Lookup, text too long", api.Lookup, zeros(8) + "\x00\x00\x00\x41" + zeros(68), api.ErrRange},
		{"Lookup, text too long and short", api.Lookup, zeros(8) + "\xff\xff\xff\xff", api.ErrRange},
		{"Lookup, text short", api.Lookup, zeros(8) + "\x00\x00\x00\x02ab\x00", api.ErrShort},
		{"Lookup, not filled up with 0", api.Lookup, zeros(8) + "\x00\x00\x00\x02ab\x00\x01", api.ErrForm},
		{"Lookup, more", api.Lookup, zeros(13), api.ErrForm},
		{"Read, Off too great", api.Read, zeros(8) + "\x40\x00\x00\x00\x00\x00\x00\x01" + zeros(4), api.ErrRange},
		{"Read, Off too great and short then", api.Read, zeros(8) + "\x40\x00\x00\x00\x00\x00\x00\x01", api.ErrRange},
		{"Read, Off too great and more", api.Read, zeros(8) + "\xff\xff\xff\xff\xff\xff\xff\xff" + zeros(5), api.ErrRange},
		{"Read, Off short", api.Read, zeros(8) + "\xff\xff\xff\xff\xff\xff\xff", api.ErrShort},
		{"Readdir, Off below 0", api.Readdir, zeros(8) + "\x80\x00\x00\x00\x00\x00\x00\x00" + zeros(4), api.ErrRange},
		{"Readdir, short", api.Readdir, zeros(19), api.ErrShort},
		{"Write, data too long", api.Write, zeros(16) + "\x00\x00\x08\x01" + zeros(2052), api.ErrRange},
		{"Write, Off and data too great", api.Write, zeros(8) + "\x70\x00\x00\x00\x00\x00\x00\x00" + "\x00\x00\x08\x01", api.ErrRange},
		{"Write, Off too great, data bad", api.Write, zeros(8) + "\x70\x00\x00\x00\x00\x00\x00\x00" + "\x00\x00\x00\x01abcd", api.ErrRange},
		{"Write, data short", api.Write, zeros(16) + "\x00\x00\x00\x05hello", api.ErrShort},
		{"Create, text bad and short then", api.Create, zeros(8) + "\x00\x00\x00\x01abcd", api.ErrForm},
		{"Create, short", api.Create, zeros(15), api.ErrShort},
		{"Rename, first text too long, second handle short", api.Rename, zeros(8) + "\x00\x00\x00\x41", api.ErrRange},
		{"Rename, second text too long", api.Rename, zeros(20) + "\x00\x00\x00\x41" + zeros(68), api.ErrRange},
		{"Rename, more", api.Rename, zeros(28), api.ErrForm},
	} {
		if a, e := Read(c.proc, []byte(c.b)); !Same(a, api.Args{}) || e != c.e {
			t.Errorf("%s: %+v %d", c.name, a, e)
		}
	}
	for _, c := range laid {
		for n := range c.b {
			if a, e := Read(c.a.Proc, []byte(c.b[:n])); !Same(a, api.Args{}) || e != api.ErrShort {
				t.Error(c.a.Proc, n, a, e)
			}
		}
		if a, e := Read(c.a.Proc, []byte(c.b+"\x00")); !Same(a, api.Args{}) || e != api.ErrForm {
			t.Error(c.a.Proc, a, e)
		}
	}
}

// P14.1: whether all fields are the same.
func TestSame(t *testing.T) {
	full := func() api.Args {
		return api.Args{Proc: 1, Off: 2, Count: 3, Size: 4, Mode: 5, H: one, H2: two, Name: "a", Name2: "b", Data: []byte("c")}
	}
	if !Same(full(), full()) || !Same(api.Args{Data: []byte{}}, api.Args{}) {
		t.Error("the same are others")
	}
	for i, do := range []func(a *api.Args){
		func(a *api.Args) { a.Proc++ }, func(a *api.Args) { a.Off++ }, func(a *api.Args) { a.Count++ }, func(a *api.Args) { a.Size++ }, func(a *api.Args) { a.Mode++ },
		func(a *api.Args) { a.H.Ino++ }, func(a *api.Args) { a.H.Gen++ }, func(a *api.Args) { a.H2.Ino++ }, func(a *api.Args) { a.H2.Gen++ },
		func(a *api.Args) { a.Name += "x" }, func(a *api.Args) { a.Name2 = "" }, func(a *api.Args) { a.Data = []byte("d") }, func(a *api.Args) { a.Data = nil },
	} {
		a := full()
		do(&a)
		if Same(a, full()) || Same(full(), a) {
			t.Error(i)
		}
	}
}

// R4: what is handed in is not changed and not kept.
func TestNewMemory(t *testing.T) {
	room := []byte("abcdefgh")
	a := api.Args{Proc: api.Write, Data: room[:4]}
	b, _ := Write(a)
	got, _ := Read(api.Write, b)
	for i := range b {
		b[i] = 'x'
	}
	if !May(a) || string(a.Data) != "abcd" || string(room) != "abcdefgh" || string(got.Data) != "abcd" {
		t.Error(a, got)
	}
}

// P14.3: nothing but what may be is read, and it is written as it was.
func TestReadAndWritten(t *testing.T) {
	dice := rand.New(rand.NewSource(14))
	for range 20000 {
		proc := Procs()[dice.Intn(11)]
		b := make([]byte, dice.Intn(8)*4)
		for i := range b {
			if i%4 == 3 || dice.Intn(20) == 0 {
				b[i] = byte(dice.Intn(6))
			}
		}
		a, e := Read(proc, b)
		if e != api.OK {
			continue
		}
		if w, e := Write(a); !bytes.Equal(w, b) || e != api.OK || !May(a) || a.Proc != proc {
			t.Fatal(fmt.Sprintf("%+v", a), b, w, e)
		}
	}
}
