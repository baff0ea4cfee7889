package node_test

import (
	"testing"

	"comitia/api"
	"comitia/block"
	"comitia/cert"
	"comitia/rule"
)

// proposal is the one block that is proposed among what was sent, to all of n
// nodes; false, if there is none.
func proposal(t *testing.T, id, n int, l []api.Msg) (api.Block, bool) {
	t.Helper()
	l = of(api.Propose, l)
	if len(l) == 0 {
		return api.Block{}, false
	}
	b := l[0].Block
	sent(t, l, toEach(n, api.Msg{Kind: api.Propose, From: id, Block: b})...)
	return b, true
}

// proposed ends the test, if this isn't the block that was proposed.
func (x *twin) proposed(l []api.Msg, want api.Block) {
	x.t.Helper()
	b, ok := proposal(x.t, x.id, x.n, l)
	if !ok || !block.Same(b, want) {
		x.wrong("proposed", b, want)
	}
}

// idle ends the test, if anything was proposed.
func (x *twin) idle(l []api.Msg) {
	x.t.Helper()
	if b, ok := proposal(x.t, x.id, x.n, l); ok {
		x.wrong("proposed", b, "nothing")
	}
}

// The leader of the first view proposes as soon as it is asked, by a client or
// by a node, and once.
func TestProposeInTheFirstView(t *testing.T) {
	for n := 1; n <= api.MaxNodes; n++ {
		for id := range n {
			for _, passedOn := range []bool{false, true} {
				x := newTwin(t, id, n)
				ask := func(r api.Request) []api.Msg {
					if passedOn {
						return x.handle(asks(0, id, r))
					}
					return x.ask(r, api.OK)
				}
				l := ask(req(1, 1))
				if id == 1%n {
					x.proposed(l, first(n, 1, req(1, 1)))
				} else {
					x.idle(l)
				}
				x.idle(ask(req(2, 1)))
				x.is(1, 0, rule.State{}, 0, 0, 2)
			}
		}
	}
}

// Without a request there is nothing to propose.
func TestProposeNothing(t *testing.T) {
	x := newTwin(t, 1, 4)
	x.idle(x.handle(fetches(0, 1, "", 0), tells(0, 1, 1, cert.First()), tells(2, 1, 1, cert.First()), tells(3, 1, 1, cert.First())))
	x.idle(x.handle(asks(10, 1, api.Request{Client: 4, Seq: 1})))
	x.proposed(x.ask(req(0, 1), api.OK), first(4, 1, req(0, 1)))
}

// At most MaxBatch requests go into a block, those that came first; the next
// block has those that aren't on the way.
func TestProposeBatches(t *testing.T) {
	x := newTwin(t, 0, 1)
	var l []api.Request
	var due []api.Msg
	for i := range 5 {
		l = append(l, req(1+i%2, 5-i))
		due = append(due, x.ask(l[i], api.OK)...)
	}
	b1 := first(1, 1, l[0])
	x.proposed(due, b1)
	due = x.handle(x.handle(due...)...)
	b2 := on(1, b1, 2, l[1:4]...)
	x.proposed(due, b2)
	due = x.handle(x.handle(due...)...)
	b3 := on(1, b2, 3, l[4])
	x.proposed(due, b3)
	// Two more blocks are on the way by now: the next ones are without any.
	due = x.handle(x.handle(due...)...)
	x.is(4, 3, rule.State{Voted: 3, Locked: 2}, 1, 1, 4)
	b4 := on(1, b3, 4)
	x.proposed(due, b4)
}

// Requests that a block on the way has are left out, whatever their bodies.
func TestProposeWhatIsNotOnTheWay(t *testing.T) {
	r, other := req(1, 1), req(1, 1)
	other.Body = "another"
	x := newTwin(t, 2, 4)
	x.ask(other, api.OK)
	x.ask(req(3, 1), api.OK)
	b := first(4, 1, r, req(2, 1))
	x.handle(proposes(2, b))
	due := x.handle(tells(0, 2, 2, certified(4, b)))
	x.proposed(due, on(4, b, 2, req(3, 1)))

	// A block on another way doesn't matter.
	y := newTwin(t, 2, 4)
	y.ask(r, api.OK)
	y.handle(finds(1, 2, first(4, 3, r)), finds(1, 2, first(4, 1)))
	b = first(4, 1)
	y.proposed(y.handle(tells(0, 2, 1, certified(4, b))), on(4, b, 2, r))
}

// While a block with requests is on the way, empty ones follow it; behind its
// commit none do.
func TestProposeEmptyOnes(t *testing.T) {
	n := 4
	for _, which := range []int{0, 1} {
		var b [3]api.Block
		b[0] = first(n, 1)
		b[1] = on(n, b[0], 2)
		if which == 0 {
			b[0] = first(n, 1, req(0, 1))
			b[1] = on(n, b[0], 2)
		} else {
			b[1] = on(n, b[0], 2, req(0, 1))
		}
		b[2] = on(n, b[1], 3)
		x := newTwin(t, 0, n)
		x.handle(found(1, 0, b[:]...)...)
		due := x.handle(tells(1, 0, 3, certified(n, b[2])))
		x.is(4, 3, rule.State{Locked: 2}, 1, 1-which, 0)
		// The root is the first one of them by now.
		if which == 0 {
			x.idle(due)
		} else {
			x.proposed(due, on(n, b[2], 4))
		}
	}
	x := newTwin(t, 2, n)
	empty := first(n, 1)
	x.handle(finds(1, 2, empty))
	x.idle(x.handle(tells(1, 2, 1, certified(n, empty))))
	x.is(2, 1, rule.State{}, 0, 0, 0)
	x.proposed(x.ask(req(0, 1), api.OK), on(n, empty, 2, req(0, 1)))
}

// Nobody but the leader of the timer's view proposes.
func TestProposeLeaderAlone(t *testing.T) {
	for n := 1; n <= api.MaxNodes; n++ {
		l := chain(n, 1, 2, 4, 5, 7, 8, 10, 11)
		for k, b := range l {
			for id := range n {
				x := newTwin(t, id, n)
				x.handle(found(0, id, l[:k+1]...)...)
				due := x.handle(tells(0, id, 1, certified(n, b)))
				if x.View() != b.View+1 {
					t.Fatal(n, b.View, x.View())
				}
				if (b.View+1)%n == id {
					x.proposed(due, on(n, b, b.View+1))
				} else {
					x.idle(due)
				}
			}
		}
	}
}

// A view whose certificate isn't from the one ahead has to be ready: a quorum
// is in it.
func TestProposeReady(t *testing.T) {
	for n := 1; n <= api.MaxNodes; n++ {
		for _, certs := range []int{0, 1} {
			b := first(n, 1, req(0, 2))
			c := cert.First()
			view := n + 3
			id := view % n
			x := newTwin(t, id, n)
			x.handle(finds(0, id, b))
			x.ask(req(0, 1), api.OK)
			want := first(n, view, req(0, 1))
			if certs == 1 {
				c = certified(n, b)
				want = on(n, b, view, req(0, 1))
			}
			for k := range n {
				from := (id + k) % n
				due := x.handle(tells(from, id, view, c))
				switch {
				case k+1 == quorum(n):
					x.proposed(due, want)
				default:
					x.idle(due)
				}
				// Nothing more comes of being told it again.
				x.idle(x.handle(tells(from, id, view, c)))
			}
		}
	}
}

// That others are in some other view doesn't make the view ready.
func TestProposeNotReady(t *testing.T) {
	x := newTwin(t, 2, 4)
	x.ask(req(0, 1), api.OK)
	x.idle(x.handle(tells(0, 2, 6, cert.First()), tells(1, 2, 6, cert.First())))
	x.is(6, 0, rule.State{}, 0, 0, 1)
	x.idle(x.handle(tells(3, 2, 7, cert.First())))
	x.idle(x.handle(tells(1, 2, 5, cert.First())))
	x.proposed(x.handle(tells(2, 2, 6, cert.First())), first(4, 6, req(0, 1)))
}

// In a view, and behind it, it proposes once.
func TestProposeOnce(t *testing.T) {
	x := newTwin(t, 1, 4)
	x.proposed(x.ask(req(0, 1), api.OK), first(4, 1, req(0, 1)))
	x.idle(x.ask(req(0, 2), api.OK))
	for _, from := range []int{0, 2, 3, 1} {
		x.idle(x.handle(tells(from, 1, 1, cert.First())))
	}
	// In the next view that it leads, it does again.
	var due []api.Msg
	for _, from := range []int{0, 2, 3} {
		due = append(due, x.handle(tells(from, 1, 5, cert.First()))...)
	}
	x.proposed(due, first(4, 5, req(0, 1), req(0, 2)))
	// Opened again it doesn't know that it has.
	x.again(0)
	x.proposed(x.ask(req(0, 3), api.OK), first(4, 1, req(0, 3)))
}

// The highest certificate's block has to be in the forest: the one that can't
// be learned yet is of no use.
func TestProposeOnWhatIsThere(t *testing.T) {
	n := 4
	l := chain(n, 1, 2, 3)
	x := newTwin(t, 0, n)
	x.ask(req(3, 9), api.OK)
	for _, from := range []int{1, 2, 3} {
		due := x.handle(tells(from, 0, 4, certified(n, l[2])))
		if from == 3 {
			x.proposed(due, first(n, 4, req(3, 9)))
		} else {
			x.idle(due)
		}
	}
	x.is(4, 0, rule.State{}, 0, 0, 1)
	// With the blocks it could, but it has proposed.
	x.idle(x.handle(found(1, 0, l...)...))
	x.is(4, 3, rule.State{Locked: 2}, 1, 1, 1)
}

// The highest certificate's block may go: then nothing is built on it.
func TestProposeNotOnWhatIsGone(t *testing.T) {
	n := 4
	l := chain(n, 1, 2, 3)
	side := first(n, 9, req(3, 3))
	x := newTwin(t, 2, n)
	x.handle(finds(1, 2, side))
	x.handle(tells(1, 2, 1, certified(n, side)))
	x.is(10, 9, rule.State{}, 0, 0, 0)
	x.handle(found(1, 2, l...)...)
	x.idle(x.handle(tells(1, 2, 1, certified(n, l[2]))))
	x.is(10, 9, rule.State{Locked: 2}, 1, 1, 0)
	// It leads the view 10, and the view ahead is the certificate's.
	x.idle(x.ask(req(0, 7), api.OK))
	x.idle(x.handle(tells(0, 2, 10, cert.First()), tells(1, 2, 10, cert.First()), tells(3, 2, 10, cert.First())))
}

// Behind an opening, it proposes as soon as something was handled; ticks alone
// aren't handled, nor is what is wrong.
func TestProposeBehindOpening(t *testing.T) {
	n := 4
	l := chain(n, 1, 2, 3)
	b := logOf(rule.State{Voted: 3}, l...)
	want := on(n, l[1], 3)
	handled := map[string]func(x *twin) []api.Msg{
		"Fetch":   func(x *twin) []api.Msg { return x.handle(fetches(0, 3, "", 0)) },
		"NewView": func(x *twin) []api.Msg { return x.handle(tells(0, 3, 1, cert.First())) },
		"Found":   func(x *twin) []api.Msg { return x.handle(finds(0, 3, l[0])) },
		"Propose": func(x *twin) []api.Msg { return x.handle(proposes(3, l[0])) },
		"Voted":   func(x *twin) []api.Msg { return x.handle(votes(0, 3, n, l[2])) },
		"Tick":    func(x *twin) []api.Msg { x.idle(x.ticks(1)); return x.handle(fetches(0, 3, "", 0)) },
	}
	for what, f := range handled {
		x := openTwin(t, 3, n, b)
		x.note(what)
		x.is(3, 2, rule.State{Voted: 3, Locked: 1}, 0, 0, 0)
		x.proposed(f(x), want)
	}
	x := openTwin(t, 3, n, b)
	x.proposed(x.ask(req(3, 3), api.OK), on(n, l[1], 3, req(3, 3)))
	wrong := tells(0, 3, 1, cert.First())
	wrong.Tag = ""
	for _, m := range []api.Msg{wrong, {Kind: 5, To: 3}, fetches(0, 2, "", 0), fetches(21, 3, "", 0), asks(0, 3, api.Request{})} {
		x := openTwin(t, 3, n, b)
		x.nothing(func() []api.Msg { return x.handle(m) })
	}
	x = openTwin(t, 3, n, b)
	x.nothing(func() []api.Msg { return x.ask(api.Request{}, api.ErrArg) })
}
