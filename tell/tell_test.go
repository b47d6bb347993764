package tell

import (
	"bytes"
	"math"
	"math/rand"
	"slices"
	"strings"
	"testing"

	"truchman/api"
)

const top = math.MaxUint32

// message is a message of a type, with the tag 258.
func message(kind int, body string) string {
	n := 7 + len(body)
	return string([]byte{byte(n), byte(n >> 8), 0, 0, byte(kind), 2, 1}) + body
}

var (
	long   = strings.Repeat("n", 255)
	folder = api.Qid{Dir: true, Version: 0x01020304, Path: 0x05060708}
	file   = api.Qid{Version: top, Path: 1 << 62}

	folderBytes = "\x80\x04\x03\x02\x01\x08\x07\x06\x05\x00\x00\x00\x00"
	fileBytes   = "\x00\xff\xff\xff\xff\x00\x00\x00\x00\x00\x00\x00\x40"
)

// laid is replies of the tag 258 that may be, and their bytes.
var laid = []struct {
	t api.Tell
	b string
}{
	{api.Tell{Type: 101, Msize: 1024, Name: "9P"}, message(101, "\x00\x04\x00\x00\x02\x009P")},
	{api.Tell{Type: 101, Msize: top, Name: long}, message(101, "\xff\xff\xff\xff\xff\x00"+long)},
	{api.Tell{Type: 105, Qid: folder}, message(105, folderBytes)},
	{api.Tell{Type: 105, Qid: file}, message(105, fileBytes)},
	{api.Tell{Type: 105}, message(105, string(make([]byte, 13)))},
	{api.Tell{Type: 107, Code: 65535}, message(107, "\xff\xff")},
	{api.Tell{Type: 107, Code: 2}, message(107, "\x02\x00")},
	{api.Tell{Type: 109}, message(109, "")},
	{api.Tell{Type: 111}, message(111, "\x00\x00")},
	{api.Tell{Type: 111, Qids: []api.Qid{folder, file}}, message(111, "\x02\x00"+folderBytes+fileBytes)},
	{api.Tell{Type: 111, Qids: slices.Repeat([]api.Qid{file}, 8)}, message(111, "\x08\x00"+strings.Repeat(fileBytes, 8))},
	{api.Tell{Type: 113, Qid: file, Iounit: 1000}, message(113, fileBytes+"\xe8\x03\x00\x00")},
	{api.Tell{Type: 115, Qid: folder, Iounit: top}, message(115, folderBytes+"\xff\xff\xff\xff")},
	{api.Tell{Type: 117}, message(117, "\x00\x00\x00\x00")},
	{api.Tell{Type: 117, Data: []byte("abc")}, message(117, "\x03\x00\x00\x00abc")},
	{api.Tell{Type: 117, Data: make([]byte, 1024)}, message(117, "\x00\x04\x00\x00"+string(make([]byte, 1024)))},
	{api.Tell{Type: 119, Count: top}, message(119, "\xff\xff\xff\xff")},
	{api.Tell{Type: 121}, message(121, "")},
	{api.Tell{Type: 123}, message(123, "")},
	{api.Tell{Type: 125, Stat: api.Stat{Qid: folder, Mode: api.MDir + 511, Name: "ab"}}, message(125, folderBytes+"\xff\x01\x00\x80"+string(make([]byte, 8))+"\x02\x00ab")},
	{api.Tell{Type: 125, Stat: api.Stat{Qid: file, Mode: top, Size: 1 << 62, Name: long}}, message(125, fileBytes+"\xff\xff\xff\xff"+"\x00\x00\x00\x00\x00\x00\x00\x40"+"\xff\x00"+long)},
	{api.Tell{Type: 127}, message(127, "")},
}

var types = []int{101, 105, 107, 109, 111, 113, 115, 117, 119, 121, 123, 125, 127}

// P18.1, P18.3: what may be is laid, field by field, and read as it was.
func TestLaid(t *testing.T) {
	for _, c := range laid {
		c.t.Tag = 258
		if !May(c.t) {
			t.Errorf("%+v may not be", c.t)
		}
		if b, e := Write(c.t); string(b) != c.b || e != api.OK {
			t.Errorf("%+v: %q %d", c.t, b, e)
		}
		if x, e := Read([]byte(c.b)); !Same(x, c.t) || e != api.OK {
			t.Errorf("%q: %+v %d", c.b, x, e)
		}
	}
}

// P18.1: a reply that tells an error, and the room of a message.
func TestErrorAndRoom(t *testing.T) {
	if x := Error(1, 2); !Same(x, api.Tell{Type: 107, Tag: 1, Code: 2}) {
		t.Errorf("%+v", x)
	}
	if b, e := Write(Error(1, 2)); string(b) != "\x09\x00\x00\x00\x6b\x01\x00\x02\x00" || e != api.OK {
		t.Errorf("%q %d", b, e)
	}
	for msize, want := range map[int]int{1024: 1000, 128: 104, 25: 1, 24: 0, 23: 0, 0: 0, -1: 0, math.MinInt: 0, math.MinInt + 23: 0, math.MaxInt: math.MaxInt - 24} {
		if got := Room(msize); got != want {
			t.Error(msize, got)
		}
	}
}

// fieldsOf is, in words, what each type has.
var fieldsOf = map[int]string{
	101: "Msize Name", 105: "Qid", 107: "Code", 109: "", 111: "Qids", 113: "Qid Iounit", 115: "Qid Iounit", 117: "Data", 119: "Count", 121: "", 123: "", 125: "Stat", 127: "",
}

// set is a change of a field, which may be, or may not be.
type set struct {
	field string
	do    func(t *api.Tell)
	may   bool
}

func sets() []set {
	l := []set{
		{"Name", func(t *api.Tell) { t.Name = long }, true},
		{"Name", func(t *api.Tell) { t.Name = long + "n" }, false},
		{"Stat", func(t *api.Tell) { t.Stat.Name = long }, true},
		{"Stat", func(t *api.Tell) { t.Stat.Name = long + "n" }, false},
		{"Stat", func(t *api.Tell) { t.Stat.Qid.Dir = true }, true},
		{"Qid", func(t *api.Tell) { t.Qid.Dir = true }, true},
		{"Qids", func(t *api.Tell) { t.Qids = make([]api.Qid, 8) }, true},
		{"Qids", func(t *api.Tell) { t.Qids = make([]api.Qid, 9) }, false},
		{"Qids", func(t *api.Tell) { t.Qids = []api.Qid{folder, {Version: -1}} }, false},
		{"Qids", func(t *api.Tell) { t.Qids = []api.Qid{folder, {Version: top + 1}, file} }, false},
		{"Qids", func(t *api.Tell) { t.Qids = []api.Qid{{Path: -1}, file} }, false},
		{"Qids", func(t *api.Tell) { t.Qids = []api.Qid{{Path: 1<<62 + 1}, file} }, false},
		{"Data", func(t *api.Tell) { t.Data = make([]byte, 1024) }, true},
		{"Data", func(t *api.Tell) { t.Data = make([]byte, 1025) }, false},
	}
	for _, x := range []struct {
		field string
		at    func(t *api.Tell) *int
		most  int
	}{
		{"Tag", func(t *api.Tell) *int { return &t.Tag }, 65535},
		{"Code", func(t *api.Tell) *int { return &t.Code }, 65535},
		{"Msize", func(t *api.Tell) *int { return &t.Msize }, top},
		{"Iounit", func(t *api.Tell) *int { return &t.Iounit }, top},
		{"Count", func(t *api.Tell) *int { return &t.Count }, top},
		{"Qid", func(t *api.Tell) *int { return &t.Qid.Version }, top},
		{"Qid", func(t *api.Tell) *int { return &t.Qid.Path }, 1 << 62},
		{"Stat", func(t *api.Tell) *int { return &t.Stat.Qid.Version }, top},
		{"Stat", func(t *api.Tell) *int { return &t.Stat.Qid.Path }, 1 << 62},
		{"Stat", func(t *api.Tell) *int { return &t.Stat.Mode }, top},
		{"Stat", func(t *api.Tell) *int { return &t.Stat.Size }, 1 << 62},
	} {
		for n, may := range map[int]bool{1: true, x.most: true, x.most + 1: false, -1: false, math.MinInt: false, math.MaxInt: false} {
			l = append(l, set{x.field, func(t *api.Tell) { *x.at(t) = n }, may})
		}
	}
	return l
}

// P18.1: what may not be: a field out of its bounds, or one that the type does not have.
func TestMay(t *testing.T) {
	for _, kind := range types {
		if !May(api.Tell{Type: kind}) {
			t.Error("nothing but zeros", kind)
		}
		for _, s := range sets() {
			x := api.Tell{Type: kind}
			s.do(&x)
			may := s.may && slices.Contains(strings.Fields("Tag "+fieldsOf[kind]), s.field)
			if May(x) != may {
				t.Errorf("%+v", x)
			}
			b, e := Write(x)
			if may && e != api.OK || !may && (e != api.ErrArg || len(b) != 0) {
				t.Errorf("%+v: %q %d", x, b, e)
			}
			if got, e := Read(b); may && (!Same(got, x) || e != api.OK) {
				t.Errorf("%+v: %+v %d", x, got, e)
			}
		}
	}
	for kind := -2; kind < 400; kind++ {
		if May(api.Tell{Type: kind}) != slices.Contains(types, kind) {
			t.Error(kind)
		}
	}
	if !May(api.Tell{Type: 109, Qids: []api.Qid{}, Data: []byte{}}) {
		t.Error("an empty list is none")
	}
}

// P18.2: the errors of reading, in their row.
func TestReadErrors(t *testing.T) {
	odd := "\x01" + folderBytes[1:]
	for _, c := range []struct {
		name string
		b    string
		e    api.Errno
	}{
		{"none", "", api.ErrShort},
		{"six bytes of no form", "\xff\xff\xff\xff\xff\xff", api.ErrShort},
		{"size too great", "\x08\x00\x00\x00\x6d\x01\x00", api.ErrForm},
		{"size too small", "\x06\x00\x00\x00\x6d\x01\x00", api.ErrForm},
		{"greatest size", "\xff\xff\xff\xff\x6d\x01\x00", api.ErrForm},
		{"type 0", message(0, ""), api.ErrForm},
		{"a request's type", message(108, "\x00\x00"), api.ErrForm},
		{"type 103", message(103, ""), api.ErrForm},
		{"more behind nothing", message(109, "\x00"), api.ErrForm},
		{"more", message(119, "\x00\x00\x00\x00\x00"), api.ErrForm},
		{"text of 256", message(101, "\x00\x00\x00\x00\x00\x01"+strings.Repeat("x", 256)), api.ErrForm},
		{"first byte of a qid", message(105, odd), api.ErrForm},
		{"first byte of a qid: 127", message(105, "\x7f"+folderBytes[1:]), api.ErrForm},
		{"first byte of a qid: 129", message(105, "\x81"+folderBytes[1:]), api.ErrForm},
		{"first byte of a qid, and short then", message(105, odd[:12]), api.ErrShort},
		{"first byte of a qid, and short behind it", message(113, odd+"\x00"), api.ErrShort},
		{"first byte of the second qid", message(111, "\x02\x00"+folderBytes+odd), api.ErrForm},
		{"first byte of the first qid", message(111, "\x02\x00"+odd+folderBytes), api.ErrForm},
		{"first byte of the first qid, and short then", message(111, "\x02\x00"+odd+folderBytes[:5]), api.ErrShort},
		{"first byte of a stat's qid", message(125, odd+string(make([]byte, 14))), api.ErrForm},
		{"nine qids", message(111, "\x09\x00"+strings.Repeat(folderBytes, 9)), api.ErrRange},
		{"nine qids, and short then", message(111, "\x09\x00"), api.ErrRange},
		{"65535 qids", message(111, "\xff\xff"), api.ErrRange},
		{"eight qids, short", message(111, "\x08\x00"+strings.Repeat(folderBytes, 7)), api.ErrShort},
		{"data of 1025", message(117, "\x01\x04\x00\x00"+string(make([]byte, 1025))), api.ErrRange},
		{"data of 1025, and short then", message(117, "\x01\x04\x00\x00"), api.ErrRange},
		{"data short", message(117, "\x02\x00\x00\x00x"), api.ErrShort},
		{"path above 2^62", message(105, "\x00\x00\x00\x00\x00\x01\x00\x00\x00\x00\x00\x00\x40"), api.ErrForm},
		{"path of 2^63", message(105, "\x00\x00\x00\x00\x00\x00\x00\x00\x00\x00\x00\x00\x80"), api.ErrForm},
		{"size above 2^62", message(125, folderBytes+"\x00\x00\x00\x00\x01\x00\x00\x00\x00\x00\x00\x40\x00\x00"), api.ErrForm},
		{"a stat's name of 256", message(125, folderBytes+string(make([]byte, 12))+"\x00\x01"+strings.Repeat("x", 256)), api.ErrForm},
	} {
		if x, e := Read([]byte(c.b)); !Same(x, api.Tell{}) || e != c.e {
			t.Errorf("%s: %+v %d", c.name, x, e)
		}
	}
	for _, c := range laid {
		kind, body := int(c.b[4]), c.b[7:]
		for n := range body {
			if x, e := Read([]byte(message(kind, body[:n]))); !Same(x, api.Tell{}) || e != api.ErrShort {
				t.Error(kind, n, x, e)
			}
		}
		if x, e := Read([]byte(message(kind, body+"\x00"))); !Same(x, api.Tell{}) || e != api.ErrForm {
			t.Error(kind, x, e)
		}
	}
}

// P18.1: whether all fields are the same.
func TestSame(t *testing.T) {
	full := func() api.Tell {
		return api.Tell{Type: 1, Tag: 2, Code: 3, Msize: 4, Iounit: 5, Count: 6, Name: "a", Qid: folder, Qids: []api.Qid{folder, file}, Data: []byte("b"), Stat: api.Stat{Qid: file, Mode: 7, Size: 8, Name: "c"}}
	}
	if !Same(full(), full()) || !Same(api.Tell{}, api.Tell{Qids: []api.Qid{}, Data: []byte{}}) {
		t.Error("the same are others")
	}
	for i, do := range []func(t *api.Tell){
		func(t *api.Tell) { t.Type++ }, func(t *api.Tell) { t.Tag++ }, func(t *api.Tell) { t.Code++ }, func(t *api.Tell) { t.Msize++ }, func(t *api.Tell) { t.Iounit++ }, func(t *api.Tell) { t.Count++ },
		func(t *api.Tell) { t.Name = "" }, func(t *api.Tell) { t.Qid.Dir = false }, func(t *api.Tell) { t.Qid.Version++ }, func(t *api.Tell) { t.Qid.Path++ },
		func(t *api.Tell) { t.Qids[1].Path++ }, func(t *api.Tell) { t.Qids = t.Qids[:1] }, func(t *api.Tell) { t.Data[0]++ }, func(t *api.Tell) { t.Data = nil },
		func(t *api.Tell) { t.Stat.Qid.Dir = true }, func(t *api.Tell) { t.Stat.Mode++ }, func(t *api.Tell) { t.Stat.Size++ }, func(t *api.Tell) { t.Stat.Name = "" },
	} {
		x := full()
		do(&x)
		if Same(x, full()) || Same(full(), x) {
			t.Error(i)
		}
	}
}

// R4: what is handed in is not changed, and what is read is new memory.
func TestNewMemory(t *testing.T) {
	x := api.Tell{Type: 117, Data: []byte("abc")}
	w := api.Tell{Type: 111, Qids: []api.Qid{folder, file}}
	Write(w)
	b, _ := Write(x)
	got, _ := Read(b)
	for i := range b {
		b[i] = 'x'
	}
	if !May(x) || !May(w) || string(x.Data) != "abc" || string(got.Data) != "abc" || !slices.Equal(w.Qids, []api.Qid{folder, file}) {
		t.Error(x, w, got)
	}
}

// P18.3: nothing but what may be is read, and it is written as it was; data have at most 24 bytes beside them.
func TestReadAndWritten(t *testing.T) {
	dice := rand.New(rand.NewSource(18))
	for range 50000 {
		body := make([]byte, dice.Intn(30))
		for i := range body {
			switch dice.Intn(9) {
			case 0:
				body[i] = byte(dice.Intn(4))
			case 1:
				body[i] = 128
			}
		}
		b := []byte(message(types[dice.Intn(13)], string(body)))
		x, e := Read(b)
		if e != api.OK {
			if !Same(x, api.Tell{}) {
				t.Fatal(x)
			}
			continue
		}
		if w, e := Write(x); !bytes.Equal(w, b) || e != api.OK || !May(x) {
			t.Fatal(x, b, w, e)
		}
		if x.Type == 117 && len(b) > len(x.Data)+api.Overhead {
			t.Fatal(len(b), len(x.Data))
		}
	}
}
