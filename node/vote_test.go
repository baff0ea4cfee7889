package node_test

import (
	"testing"

	"comitia/api"
	"comitia/block"
	"comitia/cert"
	"comitia/rule"
)

// votedFor ends the test, if what was sent isn't, beside other kinds, the vote
// for a block, to all.
func (x *twin) votedFor(l []api.Msg, b api.Block) {
	x.t.Helper()
	h := block.Digest(b)
	m := api.Msg{Kind: api.Voted, From: x.id, View: b.View, Hash: h, Sig: signed(x.id, x.n, b.View, h)}
	sent(x.t, of(api.Voted, l), toEach(x.n, m)...)
	if got := x.State().Voted; got != b.View {
		x.wrong("Voted", got, b.View)
	}
}

// silent ends the test, if there was a vote.
func (x *twin) silent(l []api.Msg) {
	x.t.Helper()
	if got := of(api.Voted, l); len(got) > 0 {
		x.wrong("voted", names(got), "no vote")
	}
}

// Each node votes for what its view's leader proposes.
func TestVote(t *testing.T) {
	for n := 1; n <= api.MaxNodes; n++ {
		for id := range n {
			x := newTwin(t, id, n)
			b := first(n, 1, req(0, 1))
			x.votedFor(x.handle(proposes(id, b)), b)
			x.is(1, 0, rule.State{Voted: 1}, 0, 0, 0)
			// A block's certificate brings its view.
			b2 := on(n, b, 2)
			x.votedFor(x.handle(proposes(id, b2)), b2)
			x.is(2, 1, rule.State{Voted: 2}, 0, 0, 0)
			b3 := on(n, b2, 3, req(0, 2))
			x.votedFor(x.handle(proposes(id, b3)), b3)
			x.is(3, 2, rule.State{Voted: 3, Locked: 1}, 0, 0, 0)
		}
	}
}

// In one view it votes once: for the first block, whichever it is.
func TestVoteOnce(t *testing.T) {
	x := newTwin(t, 2, 4)
	a, b := first(4, 1, req(0, 1)), first(4, 1, req(0, 2))
	x.votedFor(x.handle(proposes(2, a)), a)
	x.nothing(func() []api.Msg { return x.handle(proposes(2, a)) })
	// The second one is taken, and remembered, but there is no vote.
	size := x.log.Len()
	if l := x.handle(proposes(2, b)); len(l) > 0 {
		t.Error(names(l))
	}
	x.is(1, 0, rule.State{Voted: 1}, 0, 0, 0)
	if got := x.stand(a, b); len(got) != 2 || x.log.Len() <= size {
		t.Error(len(got), x.log.Len())
	}
	x.nothing(func() []api.Msg { return x.handle(proposes(2, b)) })
}

// For a block of another view than the timer's there is no vote; when the view
// comes, and it is proposed again, there is.
func TestVoteInTheTimersView(t *testing.T) {
	n := 4
	l := chain(n, 1, 2, 3)
	x := newTwin(t, 3, n)
	late := on(n, l[0], 4, req(3, 3))
	x.votedFor(x.handle(proposes(3, l[0])), l[0])
	x.silent(x.handle(proposes(3, late)))
	x.is(2, 1, rule.State{Voted: 1}, 0, 0, 0)
	x.votedFor(x.handle(proposes(3, l[1])), l[1])
	x.ticks(4)
	x.silent(x.handle(proposes(3, late)))
	x.is(3, 1, rule.State{Voted: 2}, 0, 0, 0)
	x.ticks(8)
	x.is(4, 1, rule.State{Voted: 2}, 0, 0, 0)
	// A view that is behind gets no vote, though none was given in it.
	x.silent(x.handle(proposes(3, l[2])))
	x.is(4, 2, rule.State{Voted: 2, Locked: 1}, 0, 0, 0)
	x.votedFor(x.handle(proposes(3, late)), late)
}

// A block whose certificate is below what is preferred gets no vote; one as
// high does.
func TestVoteForWhatIsPreferred(t *testing.T) {
	n := 4
	l := chain(n, 1, 2, 3)
	for on1, want := range []bool{false, true, true} {
		x := newTwin(t, 0, n)
		x.handle(found(1, 0, l[0], l[1], l[2])...)
		x.handle(tells(1, 0, 5, cert.First()), tells(2, 0, 5, cert.First()))
		// The block of the view 3 brought the certificate of 2: 1 is preferred.
		x.is(5, 2, rule.State{Locked: 1}, 0, 0, 0)
		b := first(n, 5, req(3, 3))
		if on1 > 0 {
			b = on(n, l[on1-1], 5, req(3, 3))
		}
		due := x.handle(proposes(0, b))
		if want {
			x.votedFor(due, b)
		} else {
			x.silent(due)
			x.is(5, 2, rule.State{Locked: 1}, 0, 0, 0)
		}
	}
}

// What isn't proposed, but found, gets no vote; nor does what doesn't stand.
func TestVoteForWhatIsProposed(t *testing.T) {
	n := 4
	l := chain(n, 1, 2)
	x := newTwin(t, 2, n)
	x.silent(x.handle(finds(1, 2, l[0])))
	x.is(1, 0, rule.State{}, 0, 0, 0)
	y := newTwin(t, 2, n)
	y.silent(y.handle(proposes(2, l[1])))
	y.silent(y.handle(finds(1, 2, l[0])))
	y.is(2, 1, rule.State{}, 0, 0, 0)
	y.votedFor(y.handle(proposes(2, l[1])), l[1])
}

// The state is saved ahead of the vote, and nothing else is: the log has the
// block's record and the state's.
func TestVoteIsRemembered(t *testing.T) {
	x := newTwin(t, 2, 4)
	b := first(4, 1, req(0, 1))
	x.handle(finds(1, 2, b))
	size := x.log.Len()
	x.votedFor(x.handle(proposes(2, b)), b)
	if got := x.log.Len() - size; got != 4+9 {
		t.Error("the vote has", got, "bytes")
	}
	x.again(0)
	x.is(1, 0, rule.State{Voted: 1}, 0, 0, 0)
	x.nothing(func() []api.Msg { return x.handle(proposes(2, b)) })
	if got := x.stand(b); len(got) != 1 {
		t.Error("not remembered")
	}
}

// What is preferred by then is saved with the vote, not with the block.
func TestWhatIsSaved(t *testing.T) {
	l := chain(4, 1, 2, 3)
	x := newTwin(t, 3, 4)
	x.handle(found(0, 3, l...)...)
	x.is(3, 2, rule.State{Locked: 1}, 0, 0, 0)
	records, _ := x.log.Records()
	if len(records) != 3 {
		t.Errorf("%q", records)
	}
	x.handle(proposes(3, l[2]))
	records, _ = x.log.Records()
	if len(records) != 4 || records[3] != "S\x00\x00\x00\x03\x00\x00\x00\x01" {
		t.Errorf("%q", records)
	}
	// With the next block the state is saved as it is, if that is new.
	b := on(4, l[2], 4)
	x.handle(tells(0, 3, 3, certified(4, l[2])))
	x.handle(finds(0, 3, b))
	records, _ = x.log.Records()
	if len(records) != 6 || records[5] != "S\x00\x00\x00\x03\x00\x00\x00\x02" {
		t.Errorf("%q", records)
	}
}

// A proposal is taken for whom it is well: certificates of which only some
// signatures hold for a node.
func TestVoteForWhatIsWellForIt(t *testing.T) {
	n := 4
	a := first(n, 1, req(0, 1))
	b := block.Make(2, n, certOf(n, 1, block.Digest(a), 0, 1, 2, 3), nil)
	b.Justify.Sigs[3].Tags[1] = "0123456789abcdef"
	for id := range n {
		x := newTwin(t, id, n)
		x.handle(proposes(id, a))
		x.votedFor(x.handle(proposes(id, b)), b)
	}
	b.Justify.Sigs[2].Tags[1] = "0123456789abcdef"
	for id := range n {
		x := newTwin(t, id, n)
		x.handle(proposes(id, a))
		if id == 1 {
			x.nothing(func() []api.Msg { return x.handle(proposes(id, b)) })
		} else {
			x.votedFor(x.handle(proposes(id, b)), b)
		}
	}
}
