package node_test

import (
	"fmt"
	"math"
	"math/rand/v2"
	"testing"

	"comitia/api"
	"comitia/block"
	"comitia/cert"
)

// A foe knows all keys, and tells a node whatever: blocks on blocks, certified
// as it likes, in whatever order, and wrong things among them.
type foe struct {
	*twin
	r      *rand.Rand
	blocks []api.Block
	due    []api.Msg // what the node sent to itself
}

// again opens the node again: what it sent to itself is lost.
func (f *foe) again(keep int) {
	f.t.Helper()
	f.twin.again(keep)
	f.due = nil
}

// hand hands messages over, and keeps what the node sends to itself.
func (f *foe) hand(l ...api.Msg) {
	f.t.Helper()
	for _, m := range l {
		for _, out := range f.handle(m) {
			if out.To == f.id {
				f.due = append(f.due, out)
			}
		}
	}
}

func (f *foe) keep(l []api.Msg) {
	for _, m := range l {
		if m.To == f.id {
			f.due = append(f.due, m)
		}
	}
}

func (f *foe) node() int {
	return f.r.IntN(f.n)
}

// some is a block that is known, a late one more often; false, if the first one
// is meant.
func (f *foe) some() (api.Block, bool) {
	if len(f.blocks) == 0 || f.r.IntN(12) == 0 {
		return api.Block{}, false
	}
	back := f.r.IntN(len(f.blocks))
	if f.r.IntN(4) > 0 {
		back %= 5
	}
	return f.blocks[len(f.blocks)-1-back], true
}

// cert is a certificate for a block that is known, a wrong one now and then.
func (f *foe) cert() api.Cert {
	b, ok := f.some()
	if !ok {
		return cert.First()
	}
	from := f.r.Perm(f.n)[:quorum(f.n)]
	c := certOf(f.n, b.View, block.Digest(b), from...)
	switch f.r.IntN(40) {
	case 0:
		return certOf(f.n, b.View+1, block.Digest(b), from...)
	case 1:
		c.Sigs = c.Sigs[1:]
	case 2:
		c.Sigs[0].Tags[f.id] = c.Sigs[0].Tags[(f.id+1)%f.n] + "?"
	case 3:
		c.View++
	}
	return c
}

func (f *foe) request() api.Request {
	return req(f.r.IntN(4), 1+f.r.IntN(6))
}

// block is a new block, mostly one view behind the one on which it stands.
func (f *foe) block() api.Block {
	c := f.cert()
	view := c.View + 1
	if f.r.IntN(5) == 0 {
		view += f.r.IntN(4)
	}
	var l []api.Request
	for range f.r.IntN(3) {
		l = append(l, f.request())
	}
	b := block.Make(view, f.n, c, l)
	switch f.r.IntN(60) {
	case 0:
		b.Proposer = f.node()
	case 1:
		b.Batch = append(b.Batch, api.Request{Client: 4})
	case 2:
		b.Justify.View = b.View
	}
	if block.Well(seed, f.id, f.n, b) == api.OK {
		f.blocks = append(f.blocks, b)
	}
	return b
}

// spoil makes a message wrong.
func (f *foe) spoil(m api.Msg) api.Msg {
	switch f.r.IntN(6) {
	case 0:
		m.To = []int{-1, f.n, 20, 21, (f.id + 1) % max(f.n, 2)}[f.r.IntN(5)]
	case 1:
		m.From = []int{-1, f.n, 20, 21, math.MaxInt, math.MinInt}[f.r.IntN(6)]
	case 2:
		m.Kind = []int{0, -1, 5, 8, math.MaxInt}[f.r.IntN(5)]
	case 3:
		m.Tag = []string{"", m.Tag + "\x00", "0123456789abcdef"}[f.r.IntN(3)]
	case 4:
		m.From = f.node()
	case 5:
		m.View = []int{-1, 0, math.MinInt, math.MaxInt, api.MaxView + 1}[f.r.IntN(5)]
	}
	return m
}

// message is whatever to the node.
func (f *foe) message() api.Msg {
	switch f.r.IntN(16) {
	case 0, 1, 2, 3:
		return proposes(f.id, f.block())
	case 4, 5, 6, 7:
		if b, ok := f.some(); ok {
			return proposes(f.id, b)
		}
	case 8:
		return finds(f.node(), f.id, f.block())
	case 9, 10:
		if b, ok := f.some(); ok {
			return finds(f.node(), f.id, b)
		}
	case 11:
		return asks(f.r.IntN(21), f.id, f.request())
	case 12:
		h := block.First()
		if b, ok := f.some(); ok {
			h = block.Digest(b)
		}
		return fetches(f.r.IntN(21), f.id, h, f.r.IntN(len(f.Committed())+3))
	case 13:
		return tells(f.node(), f.id, f.View()+f.r.IntN(5)-2, f.cert())
	}
	if b, ok := f.some(); ok {
		return votes(f.node(), f.id, f.n, b)
	}
	return asks(10, f.id, api.Request{Client: f.r.IntN(6) - 1, Seq: f.r.IntN(3) - 1})
}

// polls lets a quorum vote for a block.
func (f *foe) polls() {
	b, ok := f.some()
	if !ok {
		return
	}
	for _, from := range f.r.Perm(f.n)[:quorum(f.n)] {
		f.hand(votes(from, f.id, f.n, b))
	}
}

// bursts hands over some new blocks, each on the one ahead, in whatever order,
// with votes for one of them among them.
func (f *foe) bursts() {
	var l []api.Block
	for range 2 + f.r.IntN(6) {
		b := f.block()
		if f.r.IntN(8) == 0 && len(l) > 0 {
			b = block.Make(b.View+1, f.n, certOf(f.n, b.View, block.Digest(l[len(l)-1])), nil)
		}
		f.blocks = append(f.blocks, b)
		l = append(l, b)
	}
	for _, i := range f.r.Perm(len(l)) {
		if f.r.IntN(3) == 0 {
			f.hand(proposes(f.id, l[i]))
		} else {
			f.hand(finds(f.node(), f.id, l[i]))
		}
		if f.r.IntN(4) == 0 {
			f.polls()
		}
	}
}

// gathers lets a quorum tell one view.
func (f *foe) gathers() {
	view := f.View() + f.r.IntN(3)
	for _, from := range f.r.Perm(f.n)[:quorum(f.n)] {
		f.hand(tells(from, f.id, view, f.cert()))
	}
}

func (f *foe) step() {
	switch k := f.r.IntN(100); {
	case k < 3:
		f.bursts()
	case k < 55:
		f.hand(f.message())
	case k < 60:
		f.hand(f.spoil(f.message()))
	case k < 75:
		if len(f.due) > 0 {
			i := f.r.IntN(len(f.due))
			m := f.due[i]
			f.due = append(f.due[:i:i], f.due[i+1:]...)
			if m.Kind == api.Propose {
				f.blocks = append(f.blocks, m.Block)
			}
			f.hand(m)
		}
	case k < 80:
		f.polls()
	case k < 83:
		f.gathers()
	case k < 90:
		f.note("ticks")
		f.keep(f.ticks(1 + f.r.IntN(3)))
	case k < 96:
		r := f.request()
		got, want := f.Ask(r), f.p.Ask(r)
		f.note(fmt.Sprint("ask ", r))
		if got != want {
			f.wrong("Ask", got, want)
		}
		f.keep(f.sends())
	case k < 97:
		f.fuse(f.r.IntN(8))
	case k < 98:
		f.again(f.r.IntN(1000))
	}
	if f.Dead() && f.r.IntN(4) == 0 {
		f.again(f.r.IntN(1000))
	}
}

// whatever is what happened to one of n nodes in so many trials.
func whatever(t *testing.T, n, trials int) map[string]int {
	t.Helper()
	counts := map[string]int{}
	for k := range trials {
		r := rand.New(rand.NewPCG(uint64(n), uint64(k)))
		f := &foe{twin: newTwin(t, r.IntN(n), n), r: r}
		for range 150 + r.IntN(300) {
			f.step()
		}
		f.stand(f.blocks...)
		for what, c := range f.counts {
			counts[what] += c
		}
	}
	return counts
}

// Whatever a node of n is told, it does as the plain one does.
func TestWhatever(t *testing.T) {
	t.Parallel()
	all := make([]map[string]int, api.MaxNodes)
	t.Run("n", func(t *testing.T) {
		for i := range all {
			t.Run(fmt.Sprint(i+1), func(t *testing.T) {
				t.Parallel()
				all[i] = whatever(t, i+1, 20)
			})
		}
	})
	counts := map[string]int{}
	for _, some := range all {
		for what, c := range some {
			counts[what] += c
		}
	}
	happened(t, counts, 100, "commit", "commit of many", "orphan", "not put", "past", "in the chain", "vote",
		"no vote counted", "certified", "later", "not even later", "of no use", "missing", "jump", "failed", "ready",
		"proposal", "empty proposal", "executed already", "answered again", "dead")
	happened(t, counts, 20, "full", "no vote", "many stand", "orphan dropped", "learned later")
}
