package tally_test

import (
	"cmp"
	"encoding/binary"
	"fmt"
	"math"
	"reflect"
	"slices"
	"testing"

	"comitia/api"
	"comitia/blake"
	"comitia/cert"
	"comitia/mac"
	"comitia/tally"
)

const seed = "seed"

// quorums are how many of 0 to 7 nodes are a quorum.
var quorums = [8]int{1, 1, 2, 3, 3, 4, 5, 5}

// a, b and c are digests of blocks.
var a, b, c = blake.Sum("a"), blake.Sum("b"), blake.Sum("c")

// oddViews are those in which there is no vote.
var oddViews = []int{math.MinInt, math.MinInt32, -api.MaxView, -1, 0, api.MaxView + 1, 1 << 30, math.MaxInt32, 1 << 31, 1 << 32, 1<<32 + 1, 1<<32 + 5, math.MaxInt}

// textOf is a vote's text, by the chapters' words.
func textOf(view int, block api.Hash) string {
	if view < 0 || view > math.MaxInt32 {
		view = 0
	}
	return string(binary.BigEndian.AppendUint32([]byte("V"), uint32(view))) + block
}

// signed has tags of a text for as many ends as are told, as one would sign
// who isn't asked who it is.
func signed(seed string, from, tags int, text string) api.Sig {
	s := api.Sig{From: from}
	for to := range tags {
		s.Tags = append(s.Tags, mac.Tag(seed, from, to, text))
	}
	return s
}

// voteOf is a node's vote.
func voteOf(from, n, view int, block api.Hash) api.Sig {
	return signed(seed, from, n, textOf(view, block))
}

// votesOf are the votes of some nodes.
func votesOf(n, view int, block api.Hash, froms ...int) []api.Sig {
	var l []api.Sig
	for _, from := range froms {
		l = append(l, voteOf(from, n, view, block))
	}
	return l
}

// span are the nodes from 0 below n.
func span(n int) []int {
	var l []int
	for node := range n {
		l = append(l, node)
	}
	return l
}

// A reader is a tally, and whose it is.
type reader struct {
	t     *testing.T
	to, n int
	*tally.Tally
}

func newReader(t *testing.T, to, n int) reader {
	return reader{t, to, n, tally.New(seed, to, n)}
}

// eachReader asks of each node of 1 to 7.
func eachReader(t *testing.T, ask func(x reader)) {
	for n := 1; n <= api.MaxNodes; n++ {
		for to := range n {
			ask(newReader(t, to, n))
			if t.Failed() {
				t.Fatal("node", to, "of", n)
			}
		}
	}
}

// none adds a vote of which no certificate comes.
func (x reader) none(view int, block api.Hash, s api.Sig) {
	x.t.Helper()
	if c, ok := x.Add(view, block, s); ok || c.View != 0 || c.Block != "" || len(c.Sigs) != 0 {
		x.t.Errorf("Add(%d, %x, %d): %v, %v", view, block, s.From, c, ok)
	}
}

// some adds a vote of which the certificate of these signatures comes.
func (x reader) some(view int, block api.Hash, s api.Sig, of ...api.Sig) api.Cert {
	x.t.Helper()
	of = slices.Clone(of)
	slices.SortFunc(of, func(p, q api.Sig) int { return cmp.Compare(p.From, q.From) })
	c, ok := x.Add(view, block, s)
	if want := (api.Cert{View: view, Block: block, Sigs: of}); !ok || !reflect.DeepEqual(c, want) {
		x.t.Errorf("Add(%d, %x, %d): %v, %v, not %v", view, block, s.From, c, ok, want)
	}
	if !cert.Holds(seed, x.to, x.n, c) {
		x.t.Errorf("%v doesn't hold", c)
	}
	return c
}

// refused adds what is no vote.
func (x reader) refused(view int, block api.Hash, s api.Sig) {
	x.t.Helper()
	was, count := x.Len(), x.Count(view, block)
	x.none(view, block, s)
	if x.Len() != was || x.Count(view, block) != count {
		x.t.Errorf("(%d, %x, %d) was taken", view, block, s.From)
	}
}

// taken adds a vote of which no certificate comes.
func (x reader) taken(view int, block api.Hash, s api.Sig) {
	x.t.Helper()
	was, count := x.Len(), x.Count(view, block)
	x.none(view, block, s)
	if x.Len() != was+1 || x.Count(view, block) != count+1 {
		x.t.Errorf("(%d, %x, %d) wasn't taken", view, block, s.From)
	}
}

// A group is the votes for a block, in a view: so many.
type group struct {
	view  int
	block api.Hash
	votes int
}

// check asks for all that is told of a tally: just these are its votes.
func (x reader) check(groups ...group) {
	x.t.Helper()
	all := 0
	for _, g := range groups {
		all += g.votes
		if got := x.Count(g.view, g.block); got != g.votes {
			x.t.Errorf("Count(%d, %x): %d, not %d", g.view, g.block, got, g.votes)
		}
	}
	if got := x.Len(); got != all {
		x.t.Errorf("Len: %d, not %d", got, all)
	}
	for _, g := range groups {
		for _, view := range append([]int{g.view - 1, g.view + 1}, oddViews...) {
			x.checkNone(view, g.block, groups)
		}
		for _, block := range []api.Hash{"", a, b, c, g.block[:31], g.block + "\x00"} {
			x.checkNone(g.view, block, groups)
		}
	}
}

// checkNone asks for a count that is 0, unless a group has it.
func (x reader) checkNone(view int, block api.Hash, groups []group) {
	x.t.Helper()
	if slices.ContainsFunc(groups, func(g group) bool { return g.view == view && g.block == block }) {
		return
	}
	if got := x.Count(view, block); got != 0 {
		x.t.Errorf("Count(%d, %x): %d", view, block, got)
	}
}

func TestNew(t *testing.T) {
	eachReader(t, func(x reader) {
		x.check()
		for _, view := range append([]int{1, 5, api.MaxView}, oddViews...) {
			for _, block := range []api.Hash{"", a, a[:31]} {
				x.checkNone(view, block, nil)
			}
		}
	})
}

// The chapter's example: the third vote makes a certificate, the fourth none.
func TestExample(t *testing.T) {
	l := votesOf(4, 5, a, 2, 0, 3, 1)
	x := newReader(t, 1, 4)
	x.taken(5, a, l[0])
	x.taken(5, a, l[1])
	x.some(5, a, l[2], l[:3]...)
	x.check(group{5, a, 3})
	x.taken(5, a, l[3])
	x.check(group{5, a, 4})
}

// orders are all orders of a list, or of the first five of it, each behind the
// others and ahead of them.
func orders(l []int) [][]int {
	if len(l) > 5 {
		var all [][]int
		for _, o := range orders(l[:5]) {
			all = append(all, append(slices.Clone(o), l[5:]...), append(slices.Clone(l[5:]), o...))
		}
		return all
	}
	if len(l) == 0 {
		return [][]int{nil}
	}
	var all [][]int
	for i, first := range l {
		for _, rest := range orders(slices.Delete(slices.Clone(l), i, i+1)) {
			all = append(all, append([]int{first}, rest...))
		}
	}
	return all
}

// Votes for one block, in one view, in whatever order of nodes.
func TestWhateverOrder(t *testing.T) {
	eachReader(t, func(x reader) {
		votes := votesOf(x.n, 5, a, span(x.n)...)
		for _, order := range orders(span(x.n)) {
			x.Tally = tally.New(seed, x.to, x.n)
			var came []api.Sig
			for i, from := range order {
				came = append(came, votes[from])
				if len(came) == quorums[x.n] {
					x.some(5, a, votes[from], came...)
				} else {
					x.taken(5, a, votes[from])
				}
				if x.Len() != i+1 || x.Count(5, a) != i+1 {
					t.Error(x.Len(), x.Count(5, a))
				}
			}
			if t.Failed() {
				t.Fatal(order)
			}
		}
		x.check(group{5, a, x.n})
	})
}

// Votes in several views, for one block or for several, mixed: each view has a
// certificate of its own.
func TestSeveralViews(t *testing.T) {
	for _, blocks := range [][3]api.Hash{{a, b, c}, {a, a, a}, {a, b, a}} {
		for _, views := range [][3]int{{5, 6, 7}, {7, 6, 5}, {1, api.MaxView, 2}} {
			eachReader(t, func(x reader) {
				var came [3][]api.Sig
				for i := range 3 * x.n {
					k, from := i%3, (i/3+i%3)%x.n
					s := voteOf(from, x.n, views[k], blocks[k])
					came[k] = append(came[k], s)
					if len(came[k]) == quorums[x.n] {
						x.some(views[k], blocks[k], s, came[k]...)
					} else {
						x.taken(views[k], blocks[k], s)
					}
					x.check(group{views[0], blocks[0], len(came[0])}, group{views[1], blocks[1], len(came[1])}, group{views[2], blocks[2], len(came[2])})
				}
			})
		}
	}
}

// Votes for several blocks in one view: whichever nodes vote for which one,
// a block has a certificate if it has a quorum, by just these votes.
func TestSeveralBlocks(t *testing.T) {
	blocks := [3]api.Hash{a, b, c}
	for n := 1; n <= api.MaxNodes; n++ {
		var votes [3][]api.Sig
		total := 1
		for k, h := range blocks {
			votes[k] = votesOf(n, 9, h, span(n)...)
		}
		for range n {
			total *= 3
		}
		for which := range total {
			x := newReader(t, which%n, n)
			var came [3][]api.Sig
			for i, rest := 0, which; i < n; i, rest = i+1, rest/3 {
				k, from := rest%3, (i+which/3)%n
				came[k] = append(came[k], votes[k][from])
				if len(came[k]) == quorums[n] {
					x.some(9, blocks[k], votes[k][from], came[k]...)
				} else {
					x.taken(9, blocks[k], votes[k][from])
				}
			}
			x.check(group{9, a, len(came[0])}, group{9, b, len(came[1])}, group{9, c, len(came[2])})
			if t.Failed() {
				t.Fatal(n, which)
			}
		}
	}
}

// A node's second vote in a view is none, for whichever block, and for a
// quorum, too; in another view it is one.
func TestSecondVote(t *testing.T) {
	eachReader(t, func(x reader) {
		for from := range x.n {
			x.Add(5, a, voteOf(from, x.n, 5, a))
			for _, h := range []api.Hash{a, b, c} {
				x.refused(5, h, voteOf(from, x.n, 5, h))
			}
			x.check(group{5, a, from + 1})
		}
		for from := range x.n {
			x.Add(6, b, voteOf(from, x.n, 6, b))
			x.refused(6, a, voteOf(from, x.n, 6, a))
			x.refused(5, b, voteOf(from, x.n, 5, b))
			x.check(group{5, a, x.n}, group{6, b, from + 1})
		}
	})
}

// What would be a quorum but for second votes is none.
func TestSecondVotesMakeNone(t *testing.T) {
	x := newReader(t, 0, 4)
	x.taken(5, a, voteOf(2, 4, 5, a))
	x.taken(5, b, voteOf(1, 4, 5, b))
	x.taken(5, a, voteOf(3, 4, 5, a))
	for range 3 {
		for _, from := range []int{1, 2, 3} {
			x.refused(5, a, voteOf(from, 4, 5, a))
			x.refused(5, b, voteOf(from, 4, 5, b))
		}
	}
	x.check(group{5, a, 2}, group{5, b, 1})
	x.some(5, a, voteOf(0, 4, 5, a), votesOf(4, 5, a, 2, 3, 0)...)
}

// A certificate comes just once: not by second votes, nor by those behind a
// quorum, nor when others go.
func TestJustOnce(t *testing.T) {
	eachReader(t, func(x reader) {
		x.Add(4, b, voteOf(0, x.n, 4, b))
		times := 0
		for range 3 {
			for from := range x.n {
				if _, ok := x.Add(5, a, voteOf(from, x.n, 5, a)); ok {
					times++
				}
				x.Below(from)
			}
		}
		if times != 1 {
			t.Error(times, "times")
		}
		x.Below(5)
		for from := range x.n {
			x.refused(5, a, voteOf(from, x.n, 5, a))
		}
	})
}

// The signatures of a certificate are those that came first, not the later
// ones of the same nodes that hold as well.
func TestFirstSignature(t *testing.T) {
	first, later := votesOf(4, 5, a, 0, 1, 2, 3), votesOf(4, 5, a, 0, 1, 2, 3)
	for i := range 4 {
		first[i].Tags[3] = "another's tag, 1"
		later[i].Tags[3] = "another's tag, 2"
	}
	x := newReader(t, 0, 4)
	for _, i := range []int{3, 1} {
		x.taken(5, a, first[i])
		x.refused(5, a, later[i])
	}
	x.some(5, a, first[2], first[1:]...)
	x.refused(5, a, later[2])
	x.taken(5, a, later[0])
}

func ExampleTally_Add() {
	t := tally.New("seed", 1, 4)
	block := blake.Sum("block")
	for _, from := range []int{2, 0, 0, 3, 1} {
		s, _ := mac.Sign("seed", from, 4, cert.Text(5, block))
		c, ok := t.Add(5, block, s)
		fmt.Println(t.Count(5, block), ok, len(c.Sigs))
	}
	// Output:
	// 1 false 0
	// 2 false 0
	// 2 false 0
	// 3 true 3
	// 4 false 0
}
