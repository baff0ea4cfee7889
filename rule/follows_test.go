package rule_test

import (
	"math"
	"math/rand/v2"
	"testing"

	"comitia/api"
	"comitia/block"
	"comitia/forest"
	"comitia/rule"
)

// A watch goes from state to state, and sees that neither view falls and that
// there is one vote a view.
type watch struct {
	t     *testing.T
	s     rule.State
	votes map[int]api.Hash
}

func watched(t *testing.T, s rule.State) *watch {
	return &watch{t: t, s: s, votes: map[int]api.Hash{}}
}

func (w *watch) goOn(to rule.State) {
	w.t.Helper()
	if to.Voted < w.s.Voted || to.Locked < w.s.Locked {
		w.t.Fatalf("%v behind %v", to, w.s)
	}
	w.s = to
}

func (w *watch) vote(b api.Block) {
	w.t.Helper()
	was := w.s
	after, ok := rule.Vote(w.s, b)
	if ok != rule.May(was, b) || !ok && after != was {
		w.t.Fatalf("%v %v behind %v", after, ok, was)
	}
	if ok {
		if _, known := w.votes[b.View]; known || b.View <= was.Voted {
			w.t.Fatalf("a second vote in the view %d", b.View)
		}
		w.votes[b.View] = block.Digest(b)
		if b.Justify.View < was.Locked {
			w.t.Fatalf("a vote below %d", was.Locked)
		}
	}
	w.goOn(after)
}

func (w *watch) learn(f *forest.Forest, c api.Cert) {
	w.t.Helper()
	after := rule.Learn(f, w.s, c)
	if after.Voted != w.s.Voted {
		w.t.Fatalf("learning voted: %v behind %v", after, w.s)
	}
	w.goOn(after)
}

// reopen lets the state be read again of its bytes.
func (w *watch) reopen() {
	w.t.Helper()
	s, e := rule.Read(rule.Bytes(w.s))
	if e != api.OK || s != w.s {
		w.t.Fatalf("%v %d, not %v", s, e, w.s)
	}
}

// Whatever blocks and certificates come, in whatever order.
func TestOneVoteAView(t *testing.T) {
	r := rand.New(rand.NewPCG(4, 4))
	votes, refused := 0, 0
	for range 200 {
		l := []api.Block{root(1, 0)}
		for mark := 1; mark < 40; mark++ {
			parent := l[max(0, len(l)-1-r.IntN(4))]
			l = append(l, on(parent, parent.View+1+max(0, r.IntN(6)-4), mark))
		}
		f, w := forest.New(), watched(t, rule.State{})
		for range 200 {
			b := l[r.IntN(len(l))]
			switch r.IntN(8) {
			case 0, 1:
				f.Put(l[r.IntN(len(l))])
			case 2:
				w.learn(f, certOf(b))
			case 3:
				l := others(certOf(b))
				w.learn(f, l[r.IntN(len(l))])
			case 4:
				w.reopen()
			default:
				was := len(w.votes)
				// More of them from the lower end, or there is little to vote for.
				w.vote(l[r.IntN(1+r.IntN(len(l)))])
				votes += len(w.votes) - was
				refused += 1 - len(w.votes) + was
			}
		}
	}
	if votes < 500 || refused < 500 {
		t.Errorf("%d votes, and %d that were refused: that is no trial", votes, refused)
	}
}

// Two blocks of one view: whichever comes first has the vote.
func TestTwoOfOneView(t *testing.T) {
	a := root(1, 0)
	for _, two := range [][2]api.Block{{on(a, 2, 0), on(a, 2, 1)}, {on(a, 2, 1), on(a, 2, 0)}, {on(a, 2, 0), on(a, 2, 0)}, {on(a, 2, 0), root(2, 0)}, {root(2, 0), on(a, 2, 0)}} {
		s, ok := rule.Vote(rule.State{Voted: 1}, two[0])
		if !ok || s != (rule.State{Voted: 2}) {
			t.Error(s, ok)
		}
		again, ok := rule.Vote(s, two[1])
		if ok || again != s {
			t.Error(again, ok)
		}
		f := grown(t, a, on(a, 2, 0), on(a, 2, 1))
		again, ok = rule.Vote(rule.Learn(f, s, certOf(on(a, 2, 0))), two[1])
		if ok || again != (rule.State{Voted: 2, Locked: 1}) {
			t.Error(again, ok)
		}
	}
}

// A node that has seen three blocks, one view behind the other, votes for no
// block that leaves out the first one of them.
func TestNoVoteBesideWhatIsCommitted(t *testing.T) {
	l := chain(1, 2, 3, 4)
	low, onLow := on(l[0], 5, 1), on(l[0], 9, 2)
	f := grown(t, l...)
	s := rule.State{}
	for _, b := range l {
		var ok bool
		if s, ok = rule.Vote(s, b); !ok {
			t.Error("no vote for", b.View)
		}
		s = rule.Learn(f, s, b.Justify)
	}
	if s != (rule.State{Voted: 4, Locked: 2}) {
		t.Error(s)
	}
	for _, b := range []api.Block{low, onLow, root(5, 0), on(l[0], api.MaxView, 0)} {
		if after, ok := rule.Vote(s, b); ok || after != s {
			t.Error(b.View, b.Justify.View, after)
		}
	}
	if after, ok := rule.Vote(s, on(l[1], 5, 0)); !ok || after != (rule.State{Voted: 5, Locked: 2}) {
		t.Error(after, ok)
	}
}

// From whatever state, also one that there is none of, neither view falls.
func TestFromWhateverState(t *testing.T) {
	ends := []int{math.MinInt, -1, 0, 1, 2, api.MaxView - 1, api.MaxView, api.MaxView + 1, math.MaxInt}
	l := chain(1, 2, api.MaxView-1, api.MaxView)
	odd := root(7, 0)
	odd.Justify.View = -9
	f := grown(t, append(l, odd)...)
	for _, voted := range ends {
		for _, locked := range ends {
			w := watched(t, rule.State{Voted: voted, Locked: locked})
			for _, b := range append(l, odd, l[0], l[2]) {
				w.vote(b)
				w.learn(f, certOf(b))
				w.vote(b)
			}
			for _, view := range ends {
				for _, certView := range ends {
					w.vote(of(view, certView))
				}
			}
		}
	}
}
