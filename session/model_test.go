package session

import (
	"bytes"
	"math"
	"math/rand"
	"slices"
	"testing"

	"truchman/api"
	"truchman/ask"
	"truchman/fsys"
	"truchman/gate"
	"truchman/rpc"
	"truchman/tell"
)

// world is what a session tells without streams: a gate that asks a file system itself, and requests that wait.
type world struct {
	gate  *gate.Gate
	asked int // calls
	waits []api.Ask
	most  int
	out   []byte
}

func newWorld(s Script) *world {
	fs, _ := fsys.New(s.Nodes, s.Room)
	w := &world{most: s.Most}
	w.gate = gate.New(func(a api.Args) api.Res {
		w.asked++
		return fs.Do(a)
	}, fs.Root())
	return w
}

func (w *world) tells(x api.Tell) {
	b, _ := tell.Write(x)
	w.out = append(w.out, b...)
}

func (w *world) at(tag int) int {
	return slices.IndexFunc(w.waits, func(a api.Ask) bool { return a.Tag == tag })
}

func (w *world) sent(a api.Ask) {
	switch {
	case a.Type == api.Tflush:
		if k := w.at(a.Oldtag); k >= 0 {
			w.waits = slices.Delete(w.waits, k, k+1)
			w.tells(refusal(a.Oldtag, api.Flushed))
		}
		w.tells(api.Tell{Type: api.Tflush + 1, Tag: a.Tag})
	case w.at(a.Tag) >= 0:
		w.tells(refusal(a.Tag, api.ErrTwice))
	case len(w.waits) == w.most:
		w.tells(refusal(a.Tag, api.ErrFull))
	default:
		w.waits = append(w.waits, a)
	}
}

func (w *world) serve(k int) bool {
	if k >= len(w.waits) {
		return false
	}
	a := w.waits[k]
	w.waits = slices.Delete(w.waits, k, k+1)
	w.tells(w.gate.Do(a))
	return true
}

// request is a request by chance, of few tags, fids and names, so that they meet.
func request(dice *rand.Rand) api.Ask {
	fid := dice.Intn(5)
	name := []string{"a", "b", "c", "a", "b", "..", "", "a/b"}[dice.Intn(8)]
	off := []int{0, 0, 5, 11, 22, 100, 2040, 1 << 62}[dice.Intn(8)]
	kind := dice.Intn(16) % 14
	if dice.Intn(60) == 0 {
		kind = 14
	}
	a := []api.Ask{
		{Type: api.Tattach, Fid: fid},
		{Type: api.Tattach, Fid: fid, Name: name},
		{Type: api.Twalk, Fid: fid, Newfid: dice.Intn(5), Names: []string{name, "a"}[:dice.Intn(3)]},
		{Type: api.Twalk, Fid: fid, Newfid: dice.Intn(5), Names: []string{"a", name, "b"}[:dice.Intn(4)]},
		{Type: api.Topen, Fid: fid, Mode: []int{0, 0, 2, 18, 1, 3}[dice.Intn(6)]},
		{Type: api.Tcreate, Fid: fid, Name: name, Perm: 420, Mode: 2},
		{Type: api.Tcreate, Fid: fid, Name: name, Perm: 1<<31 + 493},
		{Type: api.Tread, Fid: fid, Off: off, Count: dice.Intn(1200)},
		{Type: api.Twrite, Fid: fid, Off: off, Data: make([]byte, dice.Intn(900))},
		{Type: api.Tclunk, Fid: fid},
		{Type: api.Tremove, Fid: fid},
		{Type: api.Tstat, Fid: fid},
		{Type: api.Twstat, Fid: fid, Size: dice.Intn(60) - 1, Name: name},
		{Type: api.Tflush, Oldtag: dice.Intn(7)},
		{Type: api.Tversion, Msize: 128 + dice.Intn(1000), Name: "9P"},
	}[kind]
	a.Tag = dice.Intn(7)
	return a
}

// sizes is a script of pieces by chance.
func sizes(dice *rand.Rand) []int {
	var l []int
	for range dice.Intn(4) {
		l = append(l, []int{0, 1, 3, 7, 50, 1000, math.MaxInt}[dice.Intn(7)])
	}
	if !slices.ContainsFunc(l, func(n int) bool { return n > 0 }) {
		return nil
	}
	return l
}

func script(dice *rand.Rand) Script {
	s := Script{Nodes: 1 + dice.Intn(10), Room: dice.Intn(5000), Most: 1 + dice.Intn(8), First: dice.Uint32(), Front: sizes(dice), Back: sizes(dice)}
	if dice.Intn(3) == 0 {
		s.First = math.MaxUint32 - uint32(dice.Intn(50))
	}
	for range dice.Intn(4) {
		s.Frags = append(s.Frags, 64+dice.Intn(300))
	}
	return s
}

// client is requests that were begun to be sent.
type client struct {
	bytes []byte // that are not fed yet
	asks  []api.Ask
	sizes []int // of these, but for what was fed of the first one
}

// send feeds some bytes of what is to be sent, and tells the world of the requests that are whole then.
func (c *client) send(t *testing.T, dice *rand.Rand, s *Session, w *world) {
	for range dice.Intn(4) {
		a := request(dice)
		b, e := ask.Write(a)
		if e != api.OK {
			t.Fatal(a, e)
		}
		c.bytes, c.asks, c.sizes = append(c.bytes, b...), append(c.asks, a), append(c.sizes, len(b))
	}
	n := len(c.bytes) - dice.Intn(len(c.bytes)+1)*dice.Intn(2)
	if e := s.Feed(c.bytes[:n]); e != api.OK {
		t.Fatal(e)
	}
	c.bytes = c.bytes[n:]
	for n > 0 && n >= c.sizes[0] {
		w.sent(c.asks[0])
		n -= c.sizes[0]
		c.asks, c.sizes = c.asks[1:], c.sizes[1:]
	}
	if n > 0 {
		c.sizes[0] -= n
	}
}

// P23.4, T3, T4, T5: whatever the pieces and the cuts, and whatever is forged of other numbers, replies are those of the same requests without streams, in the row in which they were served.
func TestAgainstNoStreams(t *testing.T) {
	asked := 0
	for seed := range int64(150) {
		dice := rand.New(rand.NewSource(seed))
		how := script(dice)
		s, w, c, forged, all := session(t, how), newWorld(how), &client{}, 0, 0
		for range 800 {
			next := how.First + uint32(w.asked)
			switch dice.Intn(5) {
			case 0, 1:
				c.send(t, dice, s, w)
			case 2, 3:
				if k := dice.Intn(3); s.Serve(k) != w.serve(k) {
					t.Fatal("Serve", k)
				}
			case 4:
				m := rpc.Msg{Reply: true, Xid: next + 1 + dice.Uint32()>>1, Proc: uint32(dice.Intn(20)), Body: make([]byte, dice.Intn(30))}
				if dice.Intn(2) == 0 {
					m.Xid, m.Proc = next, 100+m.Proc
				}
				if s.Forge(rpc.Write(m)) == api.OK {
					forged++
				}
			}
			if next != how.First+uint32(w.asked) {
				all, forged = all+forged, 0
			}
			if s.Waits() != len(w.waits) || s.Calls() != w.asked || s.Dead() || s.Dropped() != all {
				t.Fatalf("seed %d: waits %d %d, calls %d %d, dead %v, dropped %d %d", seed, s.Waits(), len(w.waits), s.Calls(), w.asked, s.Dead(), s.Dropped(), all)
			}
			if dice.Intn(5) == 0 {
				if out := s.Out(); !bytes.Equal(out, w.out) {
					t.Fatalf("seed %d, %+v: %q, not %q", seed, how, out, w.out)
				}
				w.out = nil
			}
		}
		asked += w.asked
	}
	if asked < 5000 {
		t.Error("too few calls", asked)
	}
}
