package ask

import (
	"bytes"
	"math"
	"math/rand"
	"slices"
	"strings"
	"testing"

	"truchman/api"
)

const top = math.MaxUint32

// message is a message of a type, with the tag 258.
func message(kind int, body string) string {
	n := 7 + len(body)
	return string([]byte{byte(n), byte(n >> 8), 0, 0, byte(kind), 2, 1}) + body
}

var (
	long  = strings.Repeat("n", 255)
	eight = slices.Repeat([]string{long}, 8)
)

// laid is requests of the tag 258 that may be, and their bytes.
var laid = []struct {
	a api.Ask
	b string
}{
	{api.Ask{Type: api.Tversion, Msize: 1024, Name: "9P"}, message(100, "\x00\x04\x00\x00\x02\x009P")},
	{api.Ask{Type: api.Tversion, Msize: top}, message(100, "\xff\xff\xff\xff\x00\x00")},
	{api.Ask{Type: api.Tattach, Fid: 3, Name: long}, message(104, "\x03\x00\x00\x00\xff\x00"+long)},
	{api.Ask{Type: api.Tflush, Oldtag: 65535}, message(108, "\xff\xff")},
	{api.Ask{Type: api.Twalk, Fid: 1, Newfid: top}, message(110, "\x01\x00\x00\x00\xff\xff\xff\xff\x00\x00")},
	{api.Ask{Type: api.Twalk, Fid: 1, Newfid: 2, Names: []string{"a", "", "bc"}}, message(110, "\x01\x00\x00\x00\x02\x00\x00\x00\x03\x00\x01\x00a\x00\x00\x02\x00bc")},
	{api.Ask{Type: api.Twalk, Names: eight}, message(110, "\x00\x00\x00\x00\x00\x00\x00\x00\x08\x00"+strings.Repeat("\xff\x00"+long, 8))},
	{api.Ask{Type: api.Topen, Fid: 1, Mode: 255}, message(112, "\x01\x00\x00\x00\xff")},
	{api.Ask{Type: api.Tcreate, Fid: 1, Name: "a", Perm: api.MDir + 511, Mode: 1}, message(114, "\x01\x00\x00\x00\x01\x00a\xff\x01\x00\x80\x01")},
	{api.Ask{Type: api.Tread, Fid: 1, Off: 1 << 62, Count: 0x01020304}, message(116, "\x01\x00\x00\x00\x00\x00\x00\x00\x00\x00\x00\x40\x04\x03\x02\x01")},
	{api.Ask{Type: api.Twrite, Fid: 1, Off: 0x0102, Data: []byte("abc")}, message(118, "\x01\x00\x00\x00\x02\x01\x00\x00\x00\x00\x00\x00\x03\x00\x00\x00abc")},
	{api.Ask{Type: api.Twrite, Data: make([]byte, 1024)}, message(118, string(make([]byte, 12))+"\x00\x04\x00\x00"+string(make([]byte, 1024)))},
	{api.Ask{Type: api.Tclunk, Fid: 3}, message(120, "\x03\x00\x00\x00")},
	{api.Ask{Type: api.Tremove, Fid: top}, message(122, "\xff\xff\xff\xff")},
	{api.Ask{Type: api.Tstat}, message(124, "\x00\x00\x00\x00")},
	{api.Ask{Type: api.Twstat, Fid: 1, Size: -1, Name: "b"}, message(126, "\x01\x00\x00\x00\xff\xff\xff\xff\x01\x00b")},
	{api.Ask{Type: api.Twstat, Fid: 1, Size: top - 1}, message(126, "\x01\x00\x00\x00\xfe\xff\xff\xff\x00\x00")},
	{api.Ask{Type: api.Twstat, Fid: 1}, message(126, "\x01\x00\x00\x00\x00\x00\x00\x00\x00\x00")},
}

var types = []int{100, 104, 108, 110, 112, 114, 116, 118, 120, 122, 124, 126}

// P17.1, P17.3: what may be is laid, field by field, and read as it was.
func TestLaid(t *testing.T) {
	for _, c := range laid {
		c.a.Tag = 258
		if !May(c.a) {
			t.Errorf("%+v may not be", c.a)
		}
		if b, e := Write(c.a); string(b) != c.b || e != api.OK {
			t.Errorf("%+v: %q %d", c.a, b, e)
		}
		if a, e := Read([]byte(c.b)); !Same(a, c.a) || e != api.OK {
			t.Errorf("%q: %+v %d", c.b, a, e)
		}
	}
	if b, e := Write(api.Ask{Type: api.Tclunk, Tag: 1, Fid: 3}); string(b) != "\x0b\x00\x00\x00\x78\x01\x00\x03\x00\x00\x00" || e != api.OK {
		t.Errorf("%q %d", b, e)
	}
}

// fieldsOf is, in words, what each type has.
var fieldsOf = map[int]string{
	api.Tversion: "Msize Name", api.Tattach: "Fid Name", api.Tflush: "Oldtag", api.Twalk: "Fid Newfid Names", api.Topen: "Fid Mode",
	api.Tcreate: "Fid Name Perm Mode", api.Tread: "Fid Off Count", api.Twrite: "Fid Off Data", api.Tclunk: "Fid", api.Tremove: "Fid", api.Tstat: "Fid", api.Twstat: "Fid Size Name",
}

// set is a change of a field, which may be, or may not be.
type set struct {
	field string
	do    func(a *api.Ask)
	may   bool
}

func sets() []set {
	l := []set{
		{"Name", func(a *api.Ask) { a.Name = long }, true},
		{"Name", func(a *api.Ask) { a.Name = long + "n" }, false},
		{"Names", func(a *api.Ask) { a.Names = slices.Clone(eight) }, true},
		{"Names", func(a *api.Ask) { a.Names = make([]string, 9) }, false},
		{"Names", func(a *api.Ask) { a.Names = []string{"a", long + "n", "b"} }, false},
		{"Data", func(a *api.Ask) { a.Data = make([]byte, 1024) }, true},
		{"Data", func(a *api.Ask) { a.Data = make([]byte, 1025) }, false},
		{"Size", func(a *api.Ask) { a.Size = -1 }, true},
		{"Size", func(a *api.Ask) { a.Size = -2 }, false},
		{"Size", func(a *api.Ask) { a.Size = top - 1 }, true},
		{"Size", func(a *api.Ask) { a.Size = top }, false},
		{"Tag", func(a *api.Ask) { a.Tag = 65535 }, true},
	}
	for field, x := range map[string]struct {
		at   func(a *api.Ask) *int
		most int
	}{
		"Tag":    {func(a *api.Ask) *int { return &a.Tag }, 65535},
		"Fid":    {func(a *api.Ask) *int { return &a.Fid }, top},
		"Newfid": {func(a *api.Ask) *int { return &a.Newfid }, top},
		"Oldtag": {func(a *api.Ask) *int { return &a.Oldtag }, 65535},
		"Msize":  {func(a *api.Ask) *int { return &a.Msize }, top},
		"Mode":   {func(a *api.Ask) *int { return &a.Mode }, 255},
		"Perm":   {func(a *api.Ask) *int { return &a.Perm }, top},
		"Off":    {func(a *api.Ask) *int { return &a.Off }, 1 << 62},
		"Count":  {func(a *api.Ask) *int { return &a.Count }, top},
	} {
		for n, may := range map[int]bool{1: true, x.most: true, x.most + 1: false, -1: false, math.MinInt: false, math.MaxInt: false} {
			l = append(l, set{field, func(a *api.Ask) { *x.at(a) = n }, may})
		}
	}
	return l
}

// P17.1: what may not be: a field out of its bounds, or one that the type does not have.
func TestMay(t *testing.T) {
	for _, kind := range types {
		if !May(api.Ask{Type: kind}) {
			t.Error("nothing but zeros", kind)
		}
		for _, s := range sets() {
			a := api.Ask{Type: kind}
			s.do(&a)
			may := s.may && slices.Contains(strings.Fields("Tag "+fieldsOf[kind]), s.field)
			if May(a) != may {
				t.Errorf("%+v", a)
			}
			b, e := Write(a)
			if may && e != api.OK || !may && (e != api.ErrArg || len(b) != 0) {
				t.Errorf("%+v: %q %d", a, b, e)
			}
			if got, e := Read(b); may && (!Same(got, a) || e != api.OK) {
				t.Errorf("%+v: %+v %d", a, got, e)
			}
		}
	}
	for kind := -2; kind < 400; kind++ {
		if a := (api.Ask{Type: kind}); May(a) != slices.Contains(types, kind) {
			t.Error(kind)
		}
	}
	if !May(api.Ask{Type: api.Tclunk, Names: []string{}, Data: []byte{}}) {
		t.Error("an empty list is none")
	}
}

// P17.2: the errors of reading, in their row.
func TestReadErrors(t *testing.T) {
	for _, c := range []struct {
		name string
		b    string
		e    api.Errno
	}{
		{"none", "", api.ErrShort},
		{"six bytes", "\x06\x00\x00\x00\x78\x00", api.ErrShort},
		{"six bytes of no form", "\xff\xff\xff\xff\xff\xff", api.ErrShort},
		{"no body", message(120, ""), api.ErrShort},
		{"size too great", "\x0c\x00\x00\x00\x78\x01\x00\x03\x00\x00\x00", api.ErrForm},
		{"size too small", "\x0a\x00\x00\x00\x78\x01\x00\x03\x00\x00\x00", api.ErrForm},
		{"size too small, and short", "\x06\x00\x00\x00\x78\x01\x00", api.ErrForm},
		{"greatest size", "\xff\xff\xff\xff\x78\x01\x00", api.ErrForm},
		{"type 0", message(0, ""), api.ErrForm},
		{"a reply's type", message(121, "\x00\x00\x00\x00"), api.ErrForm},
		{"the type of an error", message(107, "\x00\x00"), api.ErrForm},
		{"type 106", message(106, ""), api.ErrForm},
		{"type 255", message(255, "\x00\x00\x00\x00"), api.ErrForm},
		{"more", message(120, "\x00\x00\x00\x00\x00"), api.ErrForm},
		{"text of 256", message(104, "\x00\x00\x00\x00\x00\x01"+strings.Repeat("x", 256)), api.ErrForm},
		{"text of 256, and short then", message(114, "\x00\x00\x00\x00\x00\x01"+strings.Repeat("x", 256)+"\x00\x00\x00\x00"), api.ErrShort},
		{"nine names", message(110, string(make([]byte, 8))+"\x09\x00"+string(make([]byte, 18))), api.ErrRange},
		{"nine names, and short then", message(110, string(make([]byte, 8))+"\x09\x00"), api.ErrRange},
		{"65535 names", message(110, string(make([]byte, 8))+"\xff\xff"), api.ErrRange},
		{"eight names, short", message(110, string(make([]byte, 8))+"\x08\x00"+string(make([]byte, 15))), api.ErrShort},
		{"a name of 256", message(110, string(make([]byte, 8))+"\x01\x00\x00\x01"+strings.Repeat("x", 256)), api.ErrForm},
		{"data of 1025", message(118, string(make([]byte, 12))+"\x01\x04\x00\x00"+string(make([]byte, 1025))), api.ErrRange},
		{"data of 1025, and short then", message(118, string(make([]byte, 12))+"\x01\x04\x00\x00"), api.ErrRange},
		{"data short", message(118, string(make([]byte, 12))+"\x02\x00\x00\x00x"), api.ErrShort},
		{"Off above 2^62", message(116, "\x00\x00\x00\x00\x01\x00\x00\x00\x00\x00\x00\x40\x00\x00\x00\x00"), api.ErrForm},
		{"Off of 2^63", message(116, "\x00\x00\x00\x00\x00\x00\x00\x00\x00\x00\x00\x80\x00\x00\x00\x00"), api.ErrForm},
		{"Off above 2^62, and short then", message(116, "\x00\x00\x00\x00\x01\x00\x00\x00\x00\x00\x00\x40\x00\x00\x00"), api.ErrShort},
		{"Off above 2^62, data of 1025", message(118, "\x00\x00\x00\x00\x01\x00\x00\x00\x00\x00\x00\x40\x01\x04\x00\x00"), api.ErrRange},
	} {
		if a, e := Read([]byte(c.b)); !Same(a, api.Ask{}) || e != c.e {
			t.Errorf("%s: %+v %d", c.name, a, e)
		}
	}
	for _, c := range laid {
		kind, body := int(c.b[4]), c.b[7:]
		for n := range body {
			if a, e := Read([]byte(message(kind, body[:n]))); !Same(a, api.Ask{}) || e != api.ErrShort {
				t.Error(kind, n, a, e)
			}
		}
		if a, e := Read([]byte(message(kind, body+"\x00"))); !Same(a, api.Ask{}) || e != api.ErrForm {
			t.Error(kind, a, e)
		}
	}
}

// P17.2: the tag of bytes.
func TestTag(t *testing.T) {
	for b, want := range map[string]int{
		"": 65535, "\x07\x00\x00\x00\x78\x01": 65535, "\x07\x00\x00\x00\x78\x01\x00": 1, "\x00\x00\x00\x00\x00\x02\x01": 258,
		"\xff\xff\xff\xff\xff\xff\xff": 65535, "\x00\x00\x00\x00\x00\x00\x80\x09\x09": 32768,
	} {
		if got := Tag([]byte(b)); got != want {
			t.Errorf("%q: %d", b, got)
		}
	}
}

// P17.1: whether all fields are the same.
func TestSame(t *testing.T) {
	full := func() api.Ask {
		return api.Ask{Type: 1, Tag: 2, Fid: 3, Newfid: 4, Oldtag: 5, Msize: 6, Mode: 7, Perm: 8, Off: 9, Count: 10, Name: "a", Names: []string{"b", "c"}, Size: 11, Data: []byte("d")}
	}
	if !Same(full(), full()) || !Same(api.Ask{}, api.Ask{Names: []string{}, Data: []byte{}}) {
		t.Error("the same are others")
	}
	for i, do := range []func(a *api.Ask){
		func(a *api.Ask) { a.Type++ }, func(a *api.Ask) { a.Tag++ }, func(a *api.Ask) { a.Fid++ }, func(a *api.Ask) { a.Newfid++ }, func(a *api.Ask) { a.Oldtag++ },
		func(a *api.Ask) { a.Msize++ }, func(a *api.Ask) { a.Mode++ }, func(a *api.Ask) { a.Perm++ }, func(a *api.Ask) { a.Off++ }, func(a *api.Ask) { a.Count++ },
		func(a *api.Ask) { a.Name = "" }, func(a *api.Ask) { a.Names[1] = "" }, func(a *api.Ask) { a.Names = a.Names[:1] }, func(a *api.Ask) { a.Size++ }, func(a *api.Ask) { a.Data = nil }, func(a *api.Ask) { a.Data[0]++ },
	} {
		a := full()
		do(&a)
		if Same(a, full()) || Same(full(), a) {
			t.Error(i)
		}
	}
}

// R4: what is handed in is not changed, and what is read is new memory.
func TestNewMemory(t *testing.T) {
	a := api.Ask{Type: api.Twalk, Names: []string{"a", "b"}}
	w := api.Ask{Type: api.Twrite, Data: []byte("abc")}
	Write(a)
	b, _ := Write(w)
	got, _ := Read(b)
	for i := range b {
		b[i] = 'x'
	}
	if !May(a) || !May(w) || !slices.Equal(a.Names, []string{"a", "b"}) || string(w.Data) != "abc" || string(got.Data) != "abc" {
		t.Error(a, w, got)
	}
}

// P17.3: nothing but what may be is read, and it is written as it was.
func TestReadAndWritten(t *testing.T) {
	dice := rand.New(rand.NewSource(17))
	for range 50000 {
		body := make([]byte, dice.Intn(24))
		for i := range body {
			if dice.Intn(3) == 0 {
				body[i] = byte(dice.Intn(4))
			}
		}
		b := []byte(message(types[dice.Intn(12)], string(body)))
		a, e := Read(b)
		if e != api.OK {
			if !Same(a, api.Ask{}) {
				t.Fatal(a)
			}
			continue
		}
		if w, e := Write(a); !bytes.Equal(w, b) || e != api.OK || !May(a) {
			t.Fatal(a, b, w, e)
		}
	}
}
