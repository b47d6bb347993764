package blob

import (
	"bytes"
	"math"
	"math/rand"
	"testing"

	"truchman/api"
)

// P12.1: what is read, and whether nothing is behind it.
func TestRead(t *testing.T) {
	for _, c := range []struct {
		b      string
		off, n int
		want   string
		end    bool
	}{
		{"abc", 0, 3, "abc", true},
		{"abc", 0, 2, "ab", false},
		{"abc", 1, 1, "b", false},
		{"abc", 1, 2, "bc", true},
		{"abc", 1, math.MaxInt, "bc", true},
		{"abc", 0, 0, "", false},
		{"abc", 2, 0, "", false},
		{"abc", 3, 0, "", true},
		{"abc", 3, 5, "", true},
		{"abc", 4, 5, "", true},
		{"abc", math.MaxInt, math.MaxInt, "", true},
		{"", 0, 0, "", true},
		{"", 0, 5, "", true},
	} {
		if got, end := Read([]byte(c.b), c.off, c.n); string(got) != c.want || end != c.end {
			t.Errorf("%q %d %d: %q %v", c.b, c.off, c.n, got, end)
		}
	}
}

// P12.2: what is written, with bytes 0 ahead of it.
func TestWrite(t *testing.T) {
	for _, c := range []struct {
		b    string
		off  int
		data string
		want string
	}{
		{"", 0, "abc", "abc"},
		{"abc", 0, "x", "xbc"},
		{"abc", 1, "xy", "axy"},
		{"abc", 2, "xy", "abxy"},
		{"abc", 3, "x", "abcx"},
		{"ab", 3, "c", "ab\x00c"},
		{"", 2, "x", "\x00\x00x"},
		{"abc", 1, "", "abc"},
		{"abc", 5, "", "abc"},
		{"abc", 2048, "", "abc"},
		{"abc", math.MaxInt, "", "abc"},
		{"", 9, "", ""},
	} {
		if got, e := Write([]byte(c.b), c.off, []byte(c.data)); string(got) != c.want || e != api.OK {
			t.Errorf("%q %d %q: %q %d", c.b, c.off, c.data, got, e)
		}
	}
}

// P12.2: the last byte that may be written.
func TestWriteTooBig(t *testing.T) {
	for _, c := range []struct {
		off, n, size int
		e            api.Errno
	}{
		{0, 2048, 2048, api.OK},
		{2047, 1, 2048, api.OK},
		{2048, 1, 0, api.TooBig},
		{0, 2049, 0, api.TooBig},
		{1, 2048, 0, api.TooBig},
		{2047, 2, 0, api.TooBig},
		{math.MaxInt, 1, 0, api.TooBig},
		{math.MaxInt, 5000, 0, api.TooBig},
	} {
		got, e := Write([]byte("ab"), c.off, bytes.Repeat([]byte{7}, c.n))
		if e != c.e || len(got) != c.size {
			t.Error(c, len(got), e)
		}
		if e == api.OK && (got[c.off] != 7 || got[2047] != 7) {
			t.Error(c, got)
		}
	}
}

// P12.2: so many bytes.
func TestResize(t *testing.T) {
	for _, c := range []struct {
		b    string
		size int
		want string
		e    api.Errno
	}{
		{"abc", 3, "abc", api.OK},
		{"abc", 2, "ab", api.OK},
		{"abc", 0, "", api.OK},
		{"", 0, "", api.OK},
		{"abc", 5, "abc\x00\x00", api.OK},
		{"", 2048, string(make([]byte, 2048)), api.OK},
		{"abc", 2049, "", api.TooBig},
		{"abc", math.MaxInt, "", api.TooBig},
	} {
		if got, e := Resize([]byte(c.b), c.size); string(got) != c.want || e != c.e {
			t.Errorf("%q %d: %q %d", c.b, c.size, got, e)
		}
	}
}

// P12.3: whether bytes may be written.
func TestFits(t *testing.T) {
	for _, c := range []struct {
		size, off, n, room int
		e                  api.Errno
	}{
		{0, 0, 5, 5, api.OK},
		{0, 0, 5, 4, api.NoSpace},
		{0, 1, 5, 5, api.NoSpace},
		{0, 1, 5, 6, api.OK},
		{10, 0, 10, 0, api.OK},
		{10, 5, 5, 0, api.OK},
		{10, 5, 6, 0, api.NoSpace},
		{10, 5, 6, 1, api.OK},
		{10, 20, 1, 10, api.NoSpace},
		{10, 20, 1, 11, api.OK},
		{10, 20, 0, 0, api.OK},
		{10, math.MaxInt, 0, 0, api.OK},
		{0, 2047, 1, 2048, api.OK},
		{0, 2048, 1, math.MaxInt, api.TooBig},
		{0, 2048, 1, 0, api.TooBig},
		{2048, 0, 2048, 0, api.OK},
		{2048, 0, 2049, 0, api.TooBig},
		{0, math.MaxInt, math.MaxInt, 0, api.TooBig},
		{0, 0, math.MaxInt, 0, api.TooBig},
		{math.MaxInt, 0, 1, 0, api.OK},
		{0, 0, 0, 0, api.OK},
	} {
		if e := Fits(c.size, c.off, c.n, c.room); e != c.e {
			t.Error(c, e)
		}
	}
}

// R4: what is answered is new memory, and what is handed in stays, its spare room, too.
func TestNewMemory(t *testing.T) {
	room := bytes.Repeat([]byte{1}, 40)
	b := room[:10]
	all, _ := Read(b, 0, 10)
	same, _ := Write(b, 3, nil)
	more, _ := Write(b, 5, room[20:30])
	less, _ := Resize(b, 5)
	as, _ := Resize(b, 10)
	great, _ := Resize(b, 20)
	for _, got := range [][]byte{all, same, more, less, as, great} {
		for i := range got[:cap(got)] {
			got[:cap(got)][i] = 9
		}
	}
	if !bytes.Equal(room, bytes.Repeat([]byte{1}, 40)) {
		t.Error(room)
	}
}

// Of numbers below 0 nothing is promised; but no call panics (R1).
func TestBelowNought(t *testing.T) {
	b := []byte("abc")
	for _, n := range []int{-1, math.MinInt} {
		Read(b, n, n)
		Read(b, n, 2)
		Read(b, 1, n)
		Write(b, n, b)
		Resize(b, n)
		Fits(n, n, n, n)
		Fits(3, n, 2, 0)
	}
}

// P12.4: what was written is read, and what was not written stays.
func TestWrittenAndRead(t *testing.T) {
	dice := rand.New(rand.NewSource(12))
	var b []byte
	plain := map[int]byte{}
	size := 0
	for range 2000 {
		off, data := dice.Intn(300), make([]byte, dice.Intn(40))
		dice.Read(data)
		if dice.Intn(10) == 0 {
			size = dice.Intn(300)
			b, _ = Resize(b, size)
			for at := range plain {
				if at >= size {
					delete(plain, at)
				}
			}
		} else {
			var e api.Errno
			if b, e = Write(b, off, data); e != api.OK {
				t.Fatal(e)
			}
			for i, c := range data {
				plain[off+i] = c
				size = max(size, off+i+1)
			}
		}
		from, n := dice.Intn(320), dice.Intn(50)
		got, end := Read(b, from, n)
		if len(b) != size || len(got) != max(0, min(n, size-from)) || end != (from+n >= size) {
			t.Fatal(from, n, size, len(got), end)
		}
		for i, c := range got {
			if c != plain[from+i] {
				t.Fatal(from, i, c, plain[from+i])
			}
		}
	}
}
