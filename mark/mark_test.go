package mark

import (
	"bytes"
	"math"
	"math/rand"
	"slices"
	"testing"

	"truchman/api"
)

// P3.1: how many bytes each fragment has.
func TestSizes(t *testing.T) {
	for _, c := range []struct {
		n, size int
		want    []int
	}{
		{0, 1, []int{0}},
		{0, math.MaxInt, []int{0}},
		{1, 1, []int{1}},
		{3, 2, []int{2, 1}},
		{4, 2, []int{2, 2}},
		{5, 5, []int{5}},
		{5, 6, []int{5}},
		{4096, math.MaxInt, []int{4096}},
		{4096, 4095, []int{4095, 1}},
		{4096, 1, slices.Repeat([]int{1}, 4096)},
	} {
		if got := Sizes(c.n, c.size); !slices.Equal(got, c.want) {
			t.Error(c.n, c.size, got)
		}
	}
}

// Of other numbers nothing is promised; but no call panics or goes on for ever (R1).
func TestSizesOfNone(t *testing.T) {
	for _, c := range [][2]int{{5, 0}, {5, -1}, {-1, 5}, {0, 0}, {math.MinInt, math.MinInt}, {5, math.MinInt}, {math.MinInt, 1}} {
		if got := Sizes(c[0], c[1]); len(got) != 0 {
			t.Error(c, got)
		}
	}
}

// P3.1: the fragments of a record.
func TestMark(t *testing.T) {
	for _, c := range []struct {
		rec  string
		size int
		want string
	}{
		{"", 1, "\x80\x00\x00\x00"},
		{"", math.MaxInt, "\x80\x00\x00\x00"},
		{"a", 1, "\x80\x00\x00\x01a"},
		{"abc", 2, "\x00\x00\x00\x02ab\x80\x00\x00\x01c"},
		{"abcd", 2, "\x00\x00\x00\x02ab\x80\x00\x00\x02cd"},
		{"abc", 3, "\x80\x00\x00\x03abc"},
		{"abc", math.MaxInt, "\x80\x00\x00\x03abc"},
	} {
		if got, e := Mark([]byte(c.rec), c.size); string(got) != c.want || e != api.OK {
			t.Errorf("%q by %d: %q %d", c.rec, c.size, got, e)
		}
	}
}

// P3.1: the errors, in their row, and the edges at which they begin.
func TestMarkErrors(t *testing.T) {
	for _, c := range []struct {
		n, size int
		e       api.Errno
	}{
		{0, 0, api.ErrArg},
		{1, -1, api.ErrArg},
		{5000, 0, api.ErrArg},
		{5000, math.MinInt, api.ErrArg},
		{4096, 4096, api.OK},
		{4097, 4096, api.ErrRange},
		{4097, math.MaxInt, api.ErrRange},
		{4097, 1, api.ErrRange},
		{64, 1, api.OK},
		{65, 1, api.ErrFull},
		{4096, 64, api.OK},
		{4096, 63, api.ErrFull},
		{4032, 63, api.OK},
		{4033, 63, api.ErrFull},
	} {
		b, e := Mark(make([]byte, c.n), c.size)
		if e != c.e || (e != api.OK && len(b) > 0) || (e == api.OK && len(b) < c.n+4) {
			t.Error(c.n, c.size, len(b), e)
		}
	}
}

// P3.2: records one behind the other, by sizes that go round and round.
func TestAll(t *testing.T) {
	for _, c := range []struct {
		sizes []int
		recs  []string
		want  string
		e     api.Errno
	}{
		{nil, nil, "", api.OK},
		{[]int{0}, nil, "", api.OK},
		{nil, []string{"ab", ""}, "\x80\x00\x00\x02ab\x80\x00\x00\x00", api.OK},
		{[]int{2}, []string{"abc", "d"}, "\x00\x00\x00\x02ab\x80\x00\x00\x01c\x80\x00\x00\x01d", api.OK},
		{[]int{1, 2}, []string{"ab", "cd", "ef"}, "\x00\x00\x00\x01a\x80\x00\x00\x01b\x80\x00\x00\x02cd\x00\x00\x00\x01e\x80\x00\x00\x01f", api.OK},
		{[]int{1, 2, 0}, []string{"a", "b"}, "\x80\x00\x00\x01a\x80\x00\x00\x01b", api.OK},
		{[]int{1, 0}, []string{"a", "b", "c"}, "", api.ErrArg},
		{[]int{1, 0}, []string{"a"}, "\x80\x00\x00\x01a", api.OK},
		{[]int{4096, 1}, []string{string(make([]byte, 4097)), string(make([]byte, 65))}, "", api.ErrRange},
		{[]int{1, 4096}, []string{string(make([]byte, 65)), string(make([]byte, 4097))}, "", api.ErrFull},
		{nil, []string{"a", string(make([]byte, 4097))}, "", api.ErrRange},
	} {
		var recs [][]byte
		for _, r := range c.recs {
			recs = append(recs, []byte(r))
		}
		if got, e := All(c.sizes, recs...); string(got) != c.want || e != c.e {
			t.Errorf("%v of %d records: %q %d", c.sizes, len(recs), got, e)
		}
	}
	whole := make([]byte, 4096)
	if got, e := All(nil, whole); e != api.OK || len(got) != 4100 || got[0] != 128 || got[2] != 16 {
		t.Error("without sizes", len(got), e)
	}
}

// R4: what is handed in is not changed.
func TestMarkChangesNothing(t *testing.T) {
	room := bytes.Repeat([]byte{1}, 20)
	b, _ := All([]int{2}, room[:5], room[5:6])
	for i := range b {
		b[i] = 9
	}
	if !bytes.Equal(room, bytes.Repeat([]byte{1}, 20)) {
		t.Error(room)
	}
}

// P3.3: fragments have all bytes in their row, and four more each; just the last one is marked.
func TestFragments(t *testing.T) {
	dice := rand.New(rand.NewSource(3))
	for range 300 {
		rec := make([]byte, dice.Intn(300))
		dice.Read(rec)
		size := len(rec)/64 + 1 + dice.Intn(100)
		b, e := Mark(rec, size)
		if e != api.OK {
			t.Fatal(len(rec), size, e)
		}
		var got []byte
		var sizes []int
		for len(b) > 0 {
			n := int(b[0]&127)<<24 | int(b[1])<<16 | int(b[2])<<8 | int(b[3])
			if marked := b[0] >= 128; marked != (len(b) == 4+n) {
				t.Fatal("marked", marked, "with so many left:", len(b))
			}
			got, b, sizes = append(got, b[4:4+n]...), b[4+n:], append(sizes, n)
		}
		if !bytes.Equal(got, rec) || !slices.Equal(sizes, Sizes(len(rec), size)) {
			t.Fatal("other than it was", rec, got, sizes)
		}
	}
}
