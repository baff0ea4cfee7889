package node_test

import (
	"math/rand/v2"
	"testing"

	"comitia/api"
	"comitia/block"
	"comitia/cert"
	"comitia/node"
	"comitia/safe"
)

// A witness sees all votes of one node, across all openings of its memory: none
// twice in a view, and each one's view in the memory by the time it goes.
type witness struct {
	*node.Node
	t     *testing.T
	id, n int
	log   *safe.Log
	cast  map[int]api.Hash // by views
	votes int
	least int // what Voted has to be at least, whatever crashes
}

func newWitness(t *testing.T, id, n int) *witness {
	t.Helper()
	w := &witness{t: t, id: id, n: n, log: safe.New(), cast: map[int]api.Hash{}}
	w.open()
	return w
}

func (w *witness) open() {
	w.t.Helper()
	x, e := node.Open(seed, w.id, w.n, w.log)
	if e != api.OK || x.State().Voted < w.least {
		w.t.Fatalf("opened: %d, has voted in %d, not in %d", e, x.State().Voted, w.least)
	}
	w.Node = x
}

func (w *witness) crash(keep int) {
	w.t.Helper()
	w.log.Crash(keep)
	w.open()
}

// sees takes what is sent, and tells how many votes there are in it.
func (w *witness) sees() int {
	w.t.Helper()
	before := len(w.cast)
	now := map[int]int{}
	for _, m := range w.Send() {
		if m.Kind != api.Voted {
			continue
		}
		if _, ok := w.cast[m.View]; ok && now[m.View] == 0 {
			w.t.Fatalf("%d of %d voted twice in %d", w.id, w.n, m.View)
		}
		if m.To != now[m.View] || m.Sig.From != w.id || w.cast[m.View] != "" && w.cast[m.View] != m.Hash {
			w.t.Fatalf("%d of %d sent %s", w.id, w.n, name(m))
		}
		now[m.View]++
		w.cast[m.View] = m.Hash
		w.least = max(w.least, m.View)
	}
	for view, k := range now {
		if k != w.n {
			w.t.Fatalf("the vote of %d went to %d", view, k)
		}
	}
	if s := w.State(); s.Voted < w.least {
		w.t.Fatalf("%d, not %d", s.Voted, w.least)
	}
	return len(w.cast) - before
}

func (w *witness) hand(m api.Msg) int {
	w.t.Helper()
	w.Handle(m)
	return w.sees()
}

// rivals are proposals of three views, two of each, to a node.
func rivals(id, n int) []api.Msg {
	a, b := first(n, 1, req(0, 1)), first(n, 1, req(0, 2))
	a2, b2 := on(n, a, 2), on(n, b, 2, req(1, 1))
	a3, b3 := on(n, a2, 3), on(n, b2, 3)
	var l []api.Msg
	for _, x := range []api.Block{a, b, b2, a2, a3, b3} {
		l = append(l, proposes(id, x))
	}
	return l
}

// Wherever the power goes, and whatever of what waits is kept: handed all again,
// by itself or in the other order, it votes in no view twice.
func TestOneVoteWhereverThePowerGoes(t *testing.T) {
	t.Parallel()
	votes, lost := 0, 0
	for _, n := range []int{1, 4, 7} {
		for fuse := range 20 {
			for keep := range 14 {
				for _, back := range []bool{false, true} {
					w := newWitness(t, n-1, n)
					l := rivals(n-1, n)
					w.log.Fuse(fuse)
					for _, m := range l {
						votes += w.hand(m)
					}
					if w.Dead() {
						lost++
						w.crash(keep)
					} else {
						w.crash(0)
					}
					for i, m := range l {
						if back {
							m = l[len(l)-1-i]
						}
						votes += w.hand(m)
					}
					if len(w.cast) > 3 || len(w.cast) < 1 && !back {
						t.Fatal(n, fuse, keep, w.cast)
					}
				}
			}
		}
	}
	if votes < 2000 || lost < 500 {
		t.Error("that is no trial", votes, lost)
	}
}

// The vote goes only behind the saving: with no more power than that its record
// takes, there is no vote; crashed as soon as it went, the node knows of it.
func TestVoteBehindItsSaving(t *testing.T) {
	for n := 1; n <= api.MaxNodes; n++ {
		for id := range n {
			for fuse := range 12 {
				w := newWitness(t, id, n)
				w.log.Fuse(fuse)
				for _, m := range rivals(id, n) {
					if w.hand(m) > 0 {
						// Nothing that waits is kept.
						w.crash(0)
						w.log.Fuse(fuse)
					}
					if w.Dead() {
						w.crash(0)
						w.log.Fuse(fuse)
					}
				}
				// A block takes its record and a sync, a vote as much.
				if want := []int{0, 0, 1, 1, 3}[min(fuse, 4)]; want == 0 && len(w.cast) > 0 || want == 3 && len(w.cast) < 3 {
					t.Errorf("%d of %d, fuse %d: %v", id, n, fuse, w.cast)
				}
			}
		}
	}
}

// A liar knows all keys, and proposes many blocks of each view, in whatever
// order, to a node that goes down now and then, or loses its power anywhere.
type liar struct {
	*witness
	r      *rand.Rand
	blocks []api.Block
	lost   int
}

func (l *liar) block() api.Block {
	c := cert.First()
	if k := len(l.blocks); k > 0 && l.r.IntN(6) > 0 {
		b := l.blocks[k-1-l.r.IntN(min(k, 6))]
		c = certOf(l.n, b.View, block.Digest(b))
	}
	b := block.Make(c.View+1+l.r.IntN(3)*l.r.IntN(2), l.n, c, []api.Request{req(l.r.IntN(4), 1+l.r.IntN(9))})
	l.blocks = append(l.blocks, b)
	return b
}

func (l *liar) step() {
	l.t.Helper()
	switch k := l.r.IntN(20); {
	case k < 9:
		l.hand(proposes(l.id, l.block()))
	case k < 14 && len(l.blocks) > 0:
		l.hand(proposes(l.id, l.blocks[len(l.blocks)-1-l.r.IntN(min(8, len(l.blocks)))]))
	case k < 15:
		from := l.r.IntN(l.n)
		l.hand(tells(from, l.id, l.View()+l.r.IntN(3), cert.First()))
	case k < 16:
		l.Tick()
		l.sees()
	case k < 18:
		l.log.Fuse(l.r.IntN(7))
	default:
		l.crash(l.r.IntN(400))
	}
	if l.Dead() {
		l.lost++
		l.crash(l.r.IntN(400))
	}
}

// In one view it votes once, across all openings of its memory.
func TestOneVoteInAView(t *testing.T) {
	t.Parallel()
	votes, lost, again := 0, 0, 0
	for k := range 20 * api.MaxNodes {
		n := 1 + k%api.MaxNodes
		r := rand.New(rand.NewPCG(18, 400+uint64(k)))
		l := &liar{witness: newWitness(t, r.IntN(n), n), r: r}
		for range 120 {
			l.step()
		}
		votes += len(l.cast)
		lost += l.lost
		for _, b := range l.blocks {
			if h, ok := l.cast[b.View]; ok && h != block.Digest(b) {
				again++
			}
		}
	}
	if votes < 500 || lost < 300 || again < 1000 {
		t.Error("that is no trial", votes, lost, again)
	}
}

// So does each one of nodes that hand one another what they send, while their
// power goes now and then, and a request is executed once, at one index.
func TestNodesThatLoseTheirPower(t *testing.T) {
	t.Parallel()
	deaths := 0
	for k := range 18 {
		n := []int{1, 4, 7}[k%3]
		r := rand.New(rand.NewPCG(18, 900+uint64(k)))
		w := newRun(t, n, r)
		for seq := 1; seq <= 5; seq++ {
			x := w.twins[r.IntN(n)]
			w.post(x.ask(req(seq%4, seq), api.OK))
			for range 10 {
				w.flow(r.IntN(20))
				y := w.twins[r.IntN(n)]
				switch r.IntN(6) {
				case 0:
					y.fuse(r.IntN(6))
				case 1:
					y.again(r.IntN(500))
				case 2:
					w.tick(y.id)
				}
				deaths += w.revive()
			}
		}
		// What was lost is asked again.
		for range 60 {
			deaths += w.revive()
			for id, x := range w.twins {
				x.fuse(-1)
				for seq := 1; seq <= 5; seq++ {
					m := asks(10, id, req(seq%4, seq))
					w.post(x.handle(m))
				}
				w.tick(id)
			}
			w.flow(3000)
			w.one()
		}
		w.flow(100000)
		w.one()
		for _, x := range w.twins {
			if got := len(x.Entries()); got != 5 {
				t.Errorf("%d: %d of %d has %d entries", k, x.id, n, got)
			}
		}
	}
	if deaths < 25 {
		t.Error("that is no trial", deaths)
	}
}

// revive opens again those that are dead, and tells how many.
func (w *run) revive() int {
	w.t.Helper()
	k := 0
	for _, x := range w.twins {
		if x.Dead() {
			x.again(w.r.IntN(500))
			k++
		}
	}
	return k
}
