package node_test

import (
	"math"
	"strings"
	"testing"

	"comitia/api"
	"comitia/block"
	"comitia/rule"
)

// long is a node with a chain of so many blocks, and two more that stand, and
// all of these blocks.
func long(t *testing.T, id, n, blocks int) (*twin, []api.Block) {
	t.Helper()
	var views []int
	for i := range blocks + 2 {
		views = append(views, i+1)
	}
	l := chain(n, views...)
	x := newTwin(t, id, n)
	x.handle(found(0, id, l...)...)
	x.handle(tells(0, id, 1, certified(n, l[len(l)-1])))
	if got := len(x.Committed()); got != blocks {
		t.Fatal(got, "blocks are committed")
	}
	return x, l
}

// What stands, or is committed, goes to whoever asks; so do the blocks of the
// chain that are behind as many as that one has, ten at most.
func TestFetch(t *testing.T) {
	x, l := long(t, 1, 4, 14)
	for _, from := range []int{0, 1, 3, 4, 20} {
		for _, view := range []int{0, 1, 2, 3, 4, 5, 12, 13, 14, 15, api.MaxView} {
			next := l[min(view, 14):min(view+10, 14)]
			for _, b := range []api.Block{l[0], l[3], l[13], l[14], l[15]} {
				want := append(found(1, from, b), found(1, from, next...)...)
				sent(t, x.handle(fetches(from, 1, block.Digest(b), view)), want...)
			}
			// What it hasn't, it doesn't send, but the chain's blocks all the same.
			for _, h := range []api.Hash{"", block.First(), block.Digest(side(4, 3)), strings.Repeat("x", 40)} {
				sent(t, x.handle(fetches(from, 1, h, view)), found(1, from, next...)...)
			}
		}
	}
	x.is(17, 16, x.State(), 14, 14, 0)
}

// A Fetch may have whatever as its View.
func TestFetchOfWhateverView(t *testing.T) {
	x, l := long(t, 0, 4, 12)
	for _, view := range []int{-1, -5, math.MinInt} {
		sent(t, x.handle(fetches(2, 0, "", view)), found(0, 2, l[:10]...)...)
	}
	for _, view := range []int{math.MaxInt, math.MaxInt - 9, 1 << 32, 1<<32 + 1} {
		sent(t, x.handle(fetches(2, 0, "", view)))
	}
}

// Orphans aren't sent, nor is what was pruned.
func TestFetchOfWhatDoesNotStand(t *testing.T) {
	n := 4
	l := chain(n, 1, 2, 3, 4)
	s := side(n, 2)
	x := newTwin(t, 0, n)
	x.handle(finds(1, 0, s), finds(1, 0, l[1]))
	if got := x.stand(l[1], s, l[0]); len(got) != 1 {
		t.Error(len(got))
	}
	x.handle(found(1, 0, l...)...)
	x.is(4, 3, rule.State{Locked: 2}, 1, 1, 0)
	if got := x.stand(append(l, s)...); len(got) != 4 {
		t.Error(len(got))
	}
}

// A Fetch comes from clients and nodes, from whatever ends up to 20.
func TestFetchFromEnds(t *testing.T) {
	x, l := long(t, 2, 4, 1)
	for from := -2; from <= 23; from++ {
		want := found(2, from, l[0])
		if from < 0 || from > 20 {
			want = nil
		}
		sent(t, x.handle(fetches(from, 2, block.Digest(l[0]), 1)), want...)
	}
}

// A node that was down takes a block of which it hasn't the parent: it asks for
// that, is sent what is committed besides, ten blocks at a time, and comes to
// have all by a few such blocks.
func TestCatchingUp(t *testing.T) {
	n := 4
	ahead, l := long(t, 1, n, 25)
	behind := newTwin(t, 3, n)
	last := on(n, l[len(l)-1], 28)
	rounds := 0
	for ; len(behind.Committed()) < 25; rounds++ {
		if rounds > 2 {
			t.Fatal("it has", len(behind.Committed()))
		}
		mail := behind.handle(proposes(3, last))
		sent(t, mail, fetches(3, last.Proposer, last.Justify.Block, len(behind.Committed())))
		for len(mail) > 0 {
			m := mail[0]
			mail = mail[1:]
			if m.Kind == api.Found {
				mail = append(mail, behind.handle(m)...)
			}
			if m.Kind == api.Fetch {
				m.To = 1
				mail = append(mail, ahead.handle(m)...)
			}
		}
	}
	if rounds < 2 {
		t.Error("that is no trial", rounds)
	}
	behind.is(28, 27, rule.State{Locked: 26}, 25, 25, 0)
}
