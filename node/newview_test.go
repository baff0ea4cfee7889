package node_test

import (
	"testing"

	"comitia/api"
	"comitia/block"
	"comitia/cert"
	"comitia/rule"
)

// One who tells its view is not enough, a weak quorum is: then the timer jumps
// to the greatest view that they are all in or past, and tells all.
func TestNewViewJumps(t *testing.T) {
	for n := 1; n <= api.MaxNodes; n++ {
		for id := range n {
			x := newTwin(t, id, n)
			weak := (n-1)/3 + 1
			views := []int{9, 7, 8, 9, 9, 9, 9}
			least := 9
			for k := range weak {
				from := (id + 1 + k) % n
				m := tells(from, id, views[k], cert.First())
				least = min(least, views[k])
				if k+1 < weak {
					x.nothing(func() []api.Msg { return x.handle(m) })
					continue
				}
				sent(t, x.handle(m), toEach(n, api.Msg{Kind: api.NewView, From: id, View: least, Cert: cert.First()})...)
				x.is(least, 0, rule.State{}, 0, 0, 0)
				x.nothing(func() []api.Msg { return x.handle(m) })
			}
		}
	}
}

// Views that aren't above the timer's change nothing.
func TestNewViewOfOldViews(t *testing.T) {
	x := newTwin(t, 2, 4)
	failTo(x, 3)
	x.nothing(func() []api.Msg {
		var l []api.Msg
		for _, from := range []int{0, 1, 3, 2} {
			for view := range 4 {
				l = append(l, x.handle(tells(from, 2, view, cert.First()))...)
			}
		}
		return l
	})
	x.handle(tells(0, 2, 4, cert.First()))
	// What a node told last counts for what it told first.
	sent(t, x.handle(tells(1, 2, 5, cert.First())), toEach(4, api.Msg{Kind: api.NewView, From: 2, View: 4, Cert: cert.First()})...)
}

// A jump leaves how many views failed; the span is whole then.
func TestNewViewSpans(t *testing.T) {
	x := newTwin(t, 2, 4)
	failTo(x, 2)
	x.ticks(3)
	x.handle(tells(0, 2, 5, cert.First()), tells(1, 2, 5, cert.First()))
	sent(t, x.ticks(7))
	x.is(5, 0, rule.State{}, 0, 0, 0)
	sent(t, x.ticks(1), toEach(4, api.Msg{Kind: api.NewView, From: 2, View: 6, Cert: cert.First()})...)
	// What is entered has failed nothing.
	b := side(4, 7)
	x.handle(finds(0, 2, b), tells(0, 2, 5, certified(4, b)))
	x.is(8, 7, rule.State{}, 0, 0, 0)
	sent(t, x.ticks(3))
	sent(t, x.ticks(1), toEach(4, api.Msg{Kind: api.NewView, From: 2, View: 9, Cert: certified(4, b)})...)
}

// The certificate is learned ahead of the jump, and is told with it.
func TestNewViewLearnsFirst(t *testing.T) {
	n := 4
	b := side(n, 4)
	for caught, view := range map[int]int{3: 5, 5: 5, 6: 6} {
		x := newTwin(t, 3, n)
		x.handle(finds(0, 3, b), tells(1, 3, caught, cert.First()))
		got := x.handle(tells(0, 3, caught, certified(n, b)))
		if caught > 5 {
			sent(t, got, toEach(n, api.Msg{Kind: api.NewView, From: 3, View: 6, Cert: certified(n, b)})...)
		} else {
			sent(t, got)
		}
		x.is(view, 4, rule.State{}, 0, 0, 0)
	}
}

// A certificate that isn't above the highest one changes nothing.
func TestNewViewOfLessCertificates(t *testing.T) {
	n := 4
	a, b := side(n, 3), first(n, 3, req(0, 9))
	x := newTwin(t, 0, n)
	x.handle(found(0, 0, side(n, 2), a, b)...)
	x.handle(tells(0, 0, 1, certified(n, a)))
	x.is(4, 3, rule.State{}, 0, 0, 0)
	x.nothing(func() []api.Msg {
		return x.handle(
			tells(1, 0, 1, cert.First()),
			tells(1, 0, 1, certified(n, side(n, 2))),
			tells(1, 0, 1, certified(n, b)),
			tells(1, 0, 1, certOf(n, 3, block.Digest(a), 1, 2, 3)),
		)
	})
	if got := x.High(); got.Block != block.Digest(a) || got.Sigs[0].From != 0 {
		t.Error(got)
	}
}

// A certificate whose view isn't its block's is the highest one all the same,
// but by it nothing is preferred or committed.
func TestCertificateOfAnotherView(t *testing.T) {
	n := 4
	l := chain(n, 1, 2, 3)
	x := newTwin(t, 1, n)
	x.handle(found(0, 1, l...)...)
	x.is(3, 2, rule.State{Locked: 1}, 0, 0, 0)
	x.handle(tells(0, 1, 1, certOf(n, 7, block.Digest(l[2]))))
	x.is(8, 7, rule.State{Locked: 1}, 0, 0, 0)
	x.handle(tells(0, 1, 1, certified(n, l[2])))
	x.is(8, 7, rule.State{Locked: 2}, 1, 1, 0)
}

// Ticks: 4, then 8, 16, 16; each view that fails is told to all, with the
// highest certificate.
func TestTicks(t *testing.T) {
	for n := 1; n <= api.MaxNodes; n++ {
		id := n / 2
		x := newTwin(t, id, n)
		b := first(n, 1)
		x.handle(finds(0, id, b), tells(0, id, 1, certified(n, b)))
		view := 2
		for _, span := range []int{4, 8, 16, 16, 16} {
			sent(t, x.ticks(span-1))
			view++
			sent(t, x.ticks(1), toEach(n, api.Msg{Kind: api.NewView, From: id, View: view, Cert: certified(n, b)})...)
			x.is(view, 1, rule.State{}, 0, 0, 0)
		}
	}
}

// At the last view no NewView goes any more, and nothing is proposed, voted for
// or entered.
func TestHalt(t *testing.T) {
	ends := map[string]func(x *twin) []api.Msg{
		"fails": func(x *twin) []api.Msg { return x.ticks(4) },
		"enters": func(x *twin) []api.Msg {
			l := x.handle(finds(0, x.id, side(x.n, api.MaxView)))
			return append(l, x.handle(tells(0, x.id, 1, certified(x.n, side(x.n, api.MaxView))))...)
		},
	}
	for how, end := range ends {
		for n := 1; n <= api.MaxNodes; n++ {
			id := (api.MaxView + 1) % n
			b := side(n, api.MaxView-1)
			x := openTwin(t, id, n, logOf(rule.State{}, b, on(n, b, api.MaxView)))
			x.note(how)
			x.is(api.MaxView, api.MaxView-1, rule.State{}, 0, 0, 0)
			sent(t, of(api.NewView, end(x)))
			if x.View() != api.MaxView+1 {
				t.Fatal(how, x.View())
			}
			x.nothing(func() []api.Msg { return x.ticks(40) })
			for from := range n {
				sent(t, of(api.NewView, x.handle(tells(from, id, api.MaxView, cert.First()), tells(from, id, api.MaxView+1, cert.First()))))
			}
			var others []api.Msg
			for _, m := range toEach(n, api.Msg{Kind: api.Ask, From: id, Request: req(0, 1)}) {
				if m.To != id {
					others = append(others, m)
				}
			}
			sent(t, x.ask(req(0, 1), api.OK), others...)
			last := on(n, b, api.MaxView, req(2, 2))
			sent(t, of(api.Voted, x.handle(proposes(id, last))))
			if x.View() != api.MaxView+1 || x.State().Voted != 0 {
				t.Error(how, x.View(), x.State())
			}
		}
	}
}

// At the view MaxView itself all goes on.
func TestMaxView(t *testing.T) {
	n := 4
	id := api.MaxView % n
	a := side(n, api.MaxView-1)
	x := newTwin(t, id, n)
	x.handle(finds(1, id, a))
	x.handle(tells(1, id, api.MaxView, cert.First()))
	got := x.handle(tells(2, id, api.MaxView, cert.First()))
	sent(t, got, toEach(n, api.Msg{Kind: api.NewView, From: id, View: api.MaxView, Cert: cert.First()})...)
	x.is(api.MaxView, 0, rule.State{}, 0, 0, 0)
	x.handle(tells(1, id, api.MaxView, certified(n, a)))
	b := on(n, a, api.MaxView)
	x.votedFor(x.handle(proposes(id, b)), b)
	x.handle(votes(0, id, n, b), votes(1, id, n, b), votes(2, id, n, b))
	x.is(api.MaxView+1, api.MaxView, rule.State{Voted: api.MaxView, Locked: api.MaxView - 1}, 0, 0, 0)
	// It tells views no more, but certificates are learned, and blocks found.
	sent(t, x.handle(fetches(0, id, block.Digest(b), 0)), finds(id, 0, b))
}
