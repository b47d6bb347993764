package pipe

import (
	"bytes"
	"math"
	"math/rand"
	"strings"
	"testing"

	"truchman/api"
)

func pipe(t *testing.T, sizes ...int) *Pipe {
	t.Helper()
	p, e := New(sizes...)
	if e != api.OK || p == nil {
		t.Fatal(sizes, e)
	}
	return p
}

// pieces is what Drain tells, with a bar behind each piece.
func pieces(p *Pipe) string {
	s := ""
	for _, b := range p.Drain() {
		s += string(b) + "|"
	}
	return s
}

// P5.1: the scripts that may be.
func TestNew(t *testing.T) {
	for _, c := range []struct {
		sizes []int
		e     api.Errno
	}{
		{nil, api.OK}, {[]int{1}, api.OK}, {[]int{0, 0, 1}, api.OK}, {[]int{math.MaxInt}, api.OK},
		{[]int{0}, api.ErrArg}, {[]int{0, 0}, api.ErrArg}, {[]int{-1}, api.ErrArg}, {[]int{5, -1}, api.ErrArg}, {[]int{math.MinInt, 5}, api.ErrArg},
	} {
		if p, e := New(c.sizes...); e != c.e || (p == nil) != (c.e != api.OK) {
			t.Error(c.sizes, e)
		}
	}
	p := pipe(t)
	if b, ok := p.Next(); len(b) != 0 || ok || p.Left() != 0 || p.Texts() != 0 || len(p.Drain()) != 0 {
		t.Error("a new pipe has texts")
	}
}

// P5.1: no sizes are 4096 alone.
func TestNoSizes(t *testing.T) {
	p := pipe(t)
	p.Send(make([]byte, 10000))
	for _, n := range []int{4096, 4096, 1808} {
		if b, ok := p.Next(); len(b) != n || !ok {
			t.Error(len(b), ok)
		}
	}
	if _, ok := p.Next(); ok {
		t.Error("more than was sent")
	}
}

// P5.2: pieces go by the script, round and round, across texts.
func TestNext(t *testing.T) {
	for _, c := range []struct {
		sizes []int
		texts []string
		want  string
	}{
		{[]int{2, 0}, []string{"abc"}, "ab||c|"},
		{[]int{2}, []string{"abcd"}, "ab|cd|"},
		{[]int{2}, []string{"a", "b", "c", "de"}, "ab|cd|e|"},
		{[]int{5}, []string{"a", "", "b", "c"}, "abc|"},
		{[]int{1, 2, 3}, []string{"abcdefgh"}, "a|bc|def|g|h|"},
		{[]int{0, 0, 1}, []string{"ab"}, "||a|||b|"},
		{[]int{math.MaxInt}, []string{"ab", "cd"}, "abcd|"},
		{[]int{1, 0}, []string{"a"}, "a|"},
		{[]int{1}, nil, ""},
		{[]int{1}, []string{""}, ""},
	} {
		p := pipe(t, c.sizes...)
		for _, s := range c.texts {
			if e := p.Send([]byte(s)); e != api.OK {
				t.Fatal(s, e)
			}
		}
		if got := pieces(p); got != c.want || p.Left() != 0 || p.Texts() != 0 {
			t.Errorf("%v %v: %q", c.sizes, c.texts, got)
		}
	}
}

// P5.2: the script goes on where it was, and stays where nothing is left.
func TestScriptStays(t *testing.T) {
	p := pipe(t, 1, 2, 0)
	p.Send([]byte("a"))
	if got := pieces(p); got != "a|" {
		t.Error(got)
	}
	for range 5 {
		if b, ok := p.Next(); len(b) != 0 || ok {
			t.Error(b, ok)
		}
	}
	p.Send([]byte("bcdef"))
	if got := pieces(p); got != "bc||d|ef|" {
		t.Error(got)
	}
	p.Send([]byte("g"))
	if got := pieces(p); got != "|g|" {
		t.Error(got)
	}
}

// P5.2: how many bytes and texts are left.
func TestLeft(t *testing.T) {
	p := pipe(t, 2)
	for _, s := range []string{"abc", "", "d", "ef"} {
		p.Send([]byte(s))
	}
	for _, c := range []struct {
		left, texts int
		piece       string
	}{{6, 3, "ab"}, {4, 3, "cd"}, {2, 1, "ef"}, {0, 0, ""}} {
		if p.Left() != c.left || p.Texts() != c.texts {
			t.Error(p.Left(), p.Texts(), c)
		}
		if b, ok := p.Next(); string(b) != c.piece || ok != (c.left > 0) {
			t.Error(b, ok, c)
		}
	}
}

// P5.1: at most 64 texts wait, one of which part is left, too; one without bytes is none.
func TestFull(t *testing.T) {
	p := pipe(t, 1)
	for range 64 {
		if e := p.Send([]byte("ab")); e != api.OK {
			t.Fatal(p.Texts(), e)
		}
	}
	if e := p.Send([]byte("x")); e != api.ErrFull || p.Texts() != 64 || p.Left() != 128 {
		t.Error(e, p.Texts(), p.Left())
	}
	if e := p.Send(nil); e != api.OK {
		t.Error("no bytes", e)
	}
	p.Next()
	if e := p.Send([]byte("x")); e != api.ErrFull || p.Texts() != 64 {
		t.Error("part of the first one is left", e, p.Texts())
	}
	p.Next()
	if e := p.Send([]byte("x")); e != api.OK || p.Texts() != 64 {
		t.Error("the first one is gone", e, p.Texts())
	}
	if e := p.Send([]byte("y")); e != api.ErrFull {
		t.Error("full again", e)
	}
	if got := pieces(p); got != strings.Repeat("a|b|", 63)+"x|" {
		t.Error(got)
	}
	for range 64 {
		if e := p.Send([]byte("z")); e != api.OK {
			t.Fatal("drained", e)
		}
	}
}

// R4: what is handed in is not kept and not changed, and pieces are new memory.
func TestNewMemory(t *testing.T) {
	sizes, b := []int{2}, []byte("abcd")
	p := pipe(t, sizes...)
	p.Send(b)
	sizes[0], b[0], b[3] = 0, 'x', 'y'
	one, _ := p.Next()
	_ = append(one, 'z', 'z')
	if two, _ := p.Next(); string(one) != "ab" || string(two) != "cd" || string(b) != "xbcy" {
		t.Error(one, two, b)
	}
}

// P5.3: what is drained is what was sent, in its row.
func TestDrained(t *testing.T) {
	dice := rand.New(rand.NewSource(5))
	for range 200 {
		p := pipe(t, dice.Intn(4), 1+dice.Intn(4), dice.Intn(20))
		var sent, got []byte
		for range 60 {
			b := make([]byte, dice.Intn(10))
			dice.Read(b)
			if p.Send(b) == api.OK {
				sent = append(sent, b...)
			}
			piece, _ := p.Next()
			got = append(got, piece...)
			if p.Left() != len(sent)-len(got) {
				t.Fatal(p.Left(), len(sent), len(got))
			}
		}
		for _, piece := range p.Drain() {
			got = append(got, piece...)
		}
		if !bytes.Equal(got, sent) {
			t.Fatal(got, sent)
		}
	}
}
