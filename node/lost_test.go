package node_test

import (
	"testing"

	"comitia/api"
	"comitia/block"
	"comitia/cert"
	"comitia/rule"
)

// still ends the test, if a node that is dead does anything.
func (x *twin) still() {
	x.t.Helper()
	if !x.Dead() {
		x.wrong("Dead", false, true)
	}
	n, id := x.n, x.id
	b := first(n, x.View(), req(3, 1))
	x.nothing(func() []api.Msg {
		l := x.handle(proposes(id, b), finds(0, id, side(n, 30)), asks(10, id, req(3, 2)), fetches(0, id, block.Digest(b), 0))
		for from := range n {
			l = append(l, x.handle(votes(from, id, n, b), tells(from, id, 40, cert.First()), tells(from, id, 1, certified(n, b)))...)
		}
		l = append(l, x.ask(req(3, 3), api.ErrLost)...)
		return append(l, x.ticks(50)...)
	})
}

// Where the power goes at the vote's record, or at its sync, there is no vote,
// the state is what it was, and the node is dead.
func TestLostAtAVote(t *testing.T) {
	for n := 1; n <= api.MaxNodes; n++ {
		for id := range n {
			b := first(n, 1, req(0, 1))
			for fuse := range 3 {
				x := newTwin(t, id, n)
				x.handle(finds(0, id, b))
				x.fuse(fuse)
				got := x.handle(proposes(id, b))
				if fuse == 2 {
					x.votedFor(got, b)
					continue
				}
				sent(t, got)
				x.is(1, 0, rule.State{}, 0, 0, 0)
				x.still()
				// A record that was kept counts as a vote; without it, there may be one.
				for keep := range 14 {
					y := newTwin(t, id, n)
					y.handle(finds(0, id, b))
					y.fuse(fuse)
					y.handle(proposes(id, b))
					y.again(keep)
					if fuse == 1 && keep == 13 {
						y.is(1, 0, rule.State{Voted: 1}, 0, 0, 0)
						y.silent(y.handle(proposes(id, b)))
					} else {
						y.is(1, 0, rule.State{}, 0, 0, 0)
						y.votedFor(y.handle(proposes(id, b)), b)
					}
				}
			}
		}
	}
}

// Where it goes at a block's record, the block isn't learned of, and what was to
// be sent is gone.
func TestLostAtABlock(t *testing.T) {
	n := 4
	l := chain(n, 1, 2)
	for fuse := range 2 {
		x := newTwin(t, 2, n)
		x.handle(finds(0, 2, l[0]))
		x.fuse(fuse)
		// What was to be sent goes with the power.
		x.Ask(req(3, 3))
		x.p.Ask(req(3, 3))
		x.Handle(proposes(2, l[1]))
		x.p.handle(proposes(2, l[1]))
		sent(t, x.sends())
		x.is(1, 0, rule.State{}, 0, 0, 1)
		x.still()
		x.again(1000 * fuse)
		x.is(1, 0, rule.State{}, 0, 0, 0)
	}
}

// Of many that stand at once, those ahead of the loss are remembered, and
// learned of.
func TestLostAmidBlocks(t *testing.T) {
	n := 4
	l := chain(n, 1, 2, 3, 4, 5)
	view, high := []int{1, 2, 3, 4, 5}, []int{0, 1, 2, 3, 4}
	locked := []int{0, 0, 1, 2, 3}
	// The first block's record and its sync, then the second one's; from the third
	// one's on the state has changed, and has a record, too.
	saved := []int{0, 2, 4, 6, 9, 12}
	for k := range 5 {
		for fuse := saved[k]; fuse < saved[k+1]; fuse++ {
			x := newTwin(t, 2, n)
			x.handle(found(1, 2, l[1:]...)...)
			x.fuse(fuse)
			x.handle(finds(1, 2, l[0]))
			learned := max(k-1, 0)
			x.is(view[learned], high[learned], rule.State{Locked: locked[learned]}, max(learned-2, 0), max(learned-2, 0), 0)
			x.still()
			x.again(0)
			if got := x.stand(l...); len(got) != k {
				t.Errorf("fuse %d: %d, not %d", fuse, len(got), k)
			}
		}
	}
}

// Without anything to save a lost memory isn't noticed; with it, it is.
func TestLostUnnoticed(t *testing.T) {
	x := newTwin(t, 1, 4)
	x.fuse(0)
	x.log.Sync()
	x.p.log.goes()
	r := req(0, 1)
	if got := of(api.Propose, x.ask(r, api.OK)); len(got) != 4 || x.Dead() {
		t.Error(names(got))
	}
	x.handle(tells(0, 1, 3, cert.First()), tells(2, 1, 3, cert.First()))
	x.is(3, 0, rule.State{}, 0, 0, 1)
	sent(t, x.handle(finds(0, 1, first(4, 1, r))))
	x.still()
	x.is(3, 0, rule.State{}, 0, 0, 1)
}

// Its own proposal may be what it can't remember.
func TestLostAtItsOwn(t *testing.T) {
	x := newTwin(t, 0, 1)
	due := x.ask(req(0, 1), api.OK)
	x.fuse(0)
	sent(t, x.handle(due...))
	x.still()
	x.again(0)
	x.is(1, 0, rule.State{}, 0, 0, 0)
}

// A dead node is dead till it is opened again, whatever becomes of the log.
func TestDeadTillOpened(t *testing.T) {
	x := newTwin(t, 2, 4)
	x.fuse(0)
	x.handle(proposes(2, first(4, 1)))
	x.still()
	x.log.Crash(0)
	x.p.log.crash(0)
	x.still()
	x.open(x.p.log)
	b := first(4, 1)
	x.votedFor(x.handle(proposes(2, b)), b)
}

// While it can remember, it isn't dead, and a fuse that is long enough changes
// nothing.
func TestNotDead(t *testing.T) {
	w := newRun(t, 4, nil)
	for _, x := range w.twins {
		x.fuse(1000)
	}
	w.ask(0, req(0, 1))
	w.flow(10000)
	w.all(req(0, 1))
	for _, x := range w.twins {
		if x.Dead() {
			t.Error(x.id)
		}
	}
}
