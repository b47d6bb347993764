package codes

import (
	"math"
	"slices"
	"testing"

	"truchman/api"
)

// told is the document's table.
var told = []struct {
	e      api.Errno
	status uint32
	code   int
	text   string
}{
	{0, 0, 0, "ok"},
	{8, 70, 1, "stale"},
	{9, 2, 2, "no such name"},
	{10, 17, 3, "name exists"},
	{11, 20, 4, "not a directory"},
	{12, 21, 5, "is a directory"},
	{13, 66, 6, "not empty"},
	{14, 28, 7, "no space"},
	{15, 27, 8, "too big"},
	{16, 63, 9, "bad name"},
	{20, 10003, 10, "bad cookie"},
	{17, 10101, 11, "bad fid"},
	{18, 10102, 12, "fid in use"},
	{19, 10103, 13, "bad mode"},
	{22, 10104, 14, "flushed"},
	{21, 5, 15, "i/o error"},
	{7, 10105, 16, "tag in use"},
	{5, 10106, 17, "too many requests"},
	{2, 10107, 18, "bad message"},
}

// P8.1: each error has its own; P8.3: and is found again by it.
func TestTold(t *testing.T) {
	for _, c := range told {
		if Status(c.e) != c.status || Code(c.e) != c.code || Text(c.e) != c.text {
			t.Error(c, Status(c.e), Code(c.e), Text(c.e))
		}
		if FromStatus(c.status) != c.e || FromCode(c.code) != c.e {
			t.Error(c, FromStatus(c.status), FromCode(c.code))
		}
	}
}

// P8.1: any other error is told as IO.
func TestOthers(t *testing.T) {
	for _, e := range []api.Errno{api.ErrArg, api.ErrShort, api.ErrRange, api.ErrNone, -1, 23, math.MaxInt, math.MinInt, 70, 10003} {
		if Status(e) != 5 || Code(e) != 15 || Text(e) != "i/o error" {
			t.Error(e, Status(e), Code(e), Text(e))
		}
	}
	for _, n := range []uint32{1, 3, 4, 6, 99, 10000, 10100, 10108, math.MaxUint32} {
		if FromStatus(n) != api.IO {
			t.Error(n, FromStatus(n))
		}
	}
	for _, n := range []int{-1, 19, 20, 70, 1 << 32, math.MaxInt, math.MinInt} {
		if FromCode(n) != api.IO {
			t.Error(n, FromCode(n))
		}
	}
}

// P8.2: all errors in their row, in new memory.
func TestAll(t *testing.T) {
	for range 2 {
		var want []api.Errno
		for _, c := range told {
			want = append(want, c.e)
		}
		got := All()
		if !slices.Equal(got, want) {
			t.Error(got)
		}
		for i := range got {
			got[i] = 99
		}
	}
	if Status(api.NoEnt) != 2 {
		t.Error("the table is changed")
	}
}

// P8.3: no two have one status, one code, or one text.
func TestApart(t *testing.T) {
	for i, a := range All() {
		for _, b := range All()[:i] {
			if Status(a) == Status(b) || Code(a) == Code(b) || Text(a) == Text(b) {
				t.Error(a, b)
			}
		}
	}
}
