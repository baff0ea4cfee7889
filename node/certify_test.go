package node_test

import (
	"math/rand/v2"
	"testing"

	"comitia/api"
	"comitia/block"
	"comitia/cert"
	"comitia/rule"
)

// A quorum's votes certify a block, whatever their order; one less doesn't, and
// one more changes nothing.
func TestVotesCertify(t *testing.T) {
	for n := 1; n <= api.MaxNodes; n++ {
		for id := range n {
			x := newTwin(t, id, n)
			b := first(n, 1)
			x.handle(finds(0, id, b))
			order := rand.New(rand.NewPCG(uint64(n), uint64(id))).Perm(n)
			for k, from := range order {
				m := votes(from, id, n, b)
				switch {
				case k+1 < quorum(n):
					x.nothing(func() []api.Msg { return x.handle(m) })
				case k+1 == quorum(n):
					x.handle(m)
				default:
					x.nothing(func() []api.Msg { return x.handle(m) })
				}
				x.nothing(func() []api.Msg { return x.handle(m) })
			}
			x.is(2, 1, rule.State{}, 0, 0, 0)
			if got, want := x.High(), certOf(n, 1, block.Digest(b), order[:quorum(n)]...); !cert.Holds(seed, id, n, got) || len(got.Sigs) != len(want.Sigs) || got.Block != want.Block {
				t.Errorf("%v, not %v", got, want)
			}
		}
	}
}

// Votes that come ahead of their block certify it, and whoever sent the last
// one is asked for it; when it comes, it is learned.
func TestVotesAheadOfTheirBlock(t *testing.T) {
	n := 4
	b := first(n, 1, req(0, 1))
	for _, last := range []int{0, 1, 2, 3} {
		x := newTwin(t, 2, n)
		var l []api.Msg
		for k := 1; k <= 2; k++ {
			l = append(l, votes((last+k)%n, 2, n, b))
		}
		x.nothing(func() []api.Msg { return x.handle(l...) })
		got := x.handle(votes(last, 2, n, b))
		if last == 2 {
			// Itself it doesn't ask.
			sent(t, got)
		} else {
			sent(t, got, fetches(2, last, block.Digest(b), 0))
		}
		x.is(1, 0, rule.State{}, 0, 0, 0)
		x.handle(finds(last, 2, b))
		x.is(2, 1, rule.State{}, 0, 0, 0)
	}
}

// A vote counts as its signer's, whoever sends it.
func TestVoteSentByAnother(t *testing.T) {
	x := newTwin(t, 0, 4)
	b := first(4, 1)
	x.handle(finds(0, 0, b))
	for _, signer := range []int{1, 2} {
		m := votes(signer, 0, 4, b)
		m.From = 3
		x.nothing(func() []api.Msg { return x.handle(m) })
	}
	x.handle(votes(3, 0, 4, b))
	x.is(2, 1, rule.State{}, 0, 0, 0)
}

// Votes for two blocks of a view make no quorum of either; of each node the
// first one counts.
func TestVotesForTwo(t *testing.T) {
	a, b := first(4, 1, req(0, 1)), first(4, 1, req(0, 2))
	x := newTwin(t, 3, 4)
	x.handle(finds(1, 3, a), finds(1, 3, b))
	x.nothing(func() []api.Msg {
		return x.handle(votes(0, 3, 4, a), votes(1, 3, 4, b), votes(1, 3, 4, a), votes(2, 3, 4, a))
	})
	x.handle(votes(3, 3, 4, a))
	x.is(2, 1, rule.State{}, 0, 0, 0)
	if x.High().Block != block.Digest(a) {
		t.Error("the wrong one")
	}
}

// Whenever the view rises, votes of views up to two below it are forgotten, and
// none of these are taken any more; those of the view ahead are.
func TestVotesOfOldViews(t *testing.T) {
	n := 4
	rises := map[string]func(x *twin, view int){
		"enters": func(x *twin, view int) { x.handle(tells(0, 2, 1, certified(n, side(n, view-1)))) },
		"jumps":  func(x *twin, view int) { x.handle(tells(0, 2, view, cert.First()), tells(1, 2, view, cert.First())) },
		"ticks":  func(x *twin, view int) { failTo(x, view) },
	}
	for how, rise := range rises {
		for of := 1; of <= 7; of++ {
			x := newTwin(t, 2, n)
			x.note(how)
			for view := 3; view <= 6; view++ {
				x.handle(finds(0, 2, side(n, view)))
			}
			b := side(n, of)
			x.handle(finds(0, 2, b), votes(0, 2, n, b), votes(1, 2, n, b))
			rise(x, 6)
			high := x.High().View
			x.handle(votes(3, 2, n, b))
			// What is told of the views up to 4 comes too late.
			if got, want := x.High().Block == block.Digest(b), of > 4 && of > high || of == high; got != want {
				t.Errorf("%s to 6, votes of %d: learned %t", how, of, got)
			}
			y := newTwin(t, 2, n)
			y.handle(finds(0, 2, side(n, 5)), finds(0, 2, b))
			rise(y, 6)
			high = y.High().View
			y.handle(votes(0, 2, n, b), votes(1, 2, n, b), votes(3, 2, n, b))
			if got, want := y.High().Block == block.Digest(b), of > 4 && of > high || of == high; got != want {
				t.Errorf("%s to 6, then votes of %d: learned %t", how, of, got)
			}
		}
	}
}

// side is a block of a view, on the first one.
func side(n, view int) api.Block {
	return first(n, view, req(view%4, view))
}

// failTo lets views fail till it is in one.
func failTo(x *twin, view int) {
	x.t.Helper()
	for x.View() < view {
		x.ticks(1)
	}
}

// Also behind an opening: the view has risen then, too.
func TestVotesOfOldViewsBehindOpening(t *testing.T) {
	n := 4
	for of, want := range map[int]bool{6: false, 7: false, 8: true, 9: true, 10: true} {
		b := side(n, of)
		x := openTwin(t, 0, n, logOf(rule.State{Voted: 9}, b))
		x.handle(votes(0, 0, n, b), votes(1, 0, n, b), votes(2, 0, n, b))
		if got := x.High().View == of; got != want {
			t.Errorf("votes of %d: learned %t", of, got)
		}
	}
}

// There is room for so many votes; behind it none count till the view rises.
func TestVotesWithoutRoom(t *testing.T) {
	n := 4
	x := newTwin(t, 2, n)
	b := first(n, 30)
	x.handle(finds(2, 2, b))
	for view := range 16 {
		x.handle(votes(view%n, 2, n, side(n, 2+view)))
	}
	x.nothing(func() []api.Msg { return x.handle(votes(0, 2, n, b), votes(1, 2, n, b), votes(3, 2, n, b)) })
	x.handle(tells(0, 2, 5, cert.First()), tells(1, 2, 5, cert.First()))
	x.handle(votes(0, 2, n, b), votes(1, 2, n, b))
	x.is(5, 0, rule.State{}, 0, 0, 0)
	x.nothing(func() []api.Msg { return x.handle(votes(3, 2, n, b)) })
	x.handle(tells(0, 2, 6, cert.First()), tells(1, 2, 6, cert.First()))
	x.handle(votes(3, 2, n, b))
	x.is(31, 30, rule.State{}, 0, 0, 0)
}
