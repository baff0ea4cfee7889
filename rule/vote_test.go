package rule_test

import (
	"fmt"
	"math"
	"testing"

	"comitia/api"
	"comitia/block"
	"comitia/rule"
)

// of is a block of that view, on a certificate of the other one.
func of(view, certView int) api.Block {
	return api.Block{View: view, Justify: api.Cert{View: certView, Block: block.First()}}
}

// checkVote asks whether there is a vote, and that nothing else is changed.
func checkVote(t *testing.T, s rule.State, b api.Block, want bool) {
	t.Helper()
	if got := rule.May(s, b); got != want {
		t.Errorf("%v, a block of %d on %d: may %v", s, b.View, b.Justify.View, got)
	}
	after := s
	if want {
		after = rule.State{Voted: b.View, Locked: s.Locked}
	}
	if got, ok := rule.Vote(s, b); ok != want || got != after {
		t.Errorf("%v, a block of %d on %d: %v %v, not %v %v", s, b.View, b.Justify.View, got, ok, after, want)
	}
}

// The chapter's example, and what lies about it.
func TestExample(t *testing.T) {
	s := rule.State{Voted: 3, Locked: 2}
	checkVote(t, s, of(4, 1), false)
	checkVote(t, s, of(4, 2), true)
	checkVote(t, s, of(4, 3), true)
	checkVote(t, s, of(3, 2), false)
	checkVote(t, s, of(9, 2), true)
	checkVote(t, s, of(9, 1), false)
	checkVote(t, s, of(2, 1), false)
	checkVote(t, s, of(1, 0), false)
	checkVote(t, rule.State{}, of(1, 0), true)
	checkVote(t, rule.State{}, of(7, 5), true)
}

// A view just Voted's, one less, one more; a certificate's just Locked,
// likewise.
func TestAboutTheState(t *testing.T) {
	views := []int{-1, 0, 1, 2, 3, 500, api.MaxView - 1, api.MaxView, api.MaxView + 1, 1<<31 - 1, 1 << 31}
	for _, voted := range views {
		for _, locked := range views {
			s := rule.State{Voted: voted, Locked: locked}
			for _, of := range []struct {
				view, cert int
				want       bool
			}{
				{-1, -1, false}, {-1, 0, false}, {-1, 1, false},
				{0, -1, false}, {0, 0, false}, {0, 1, false},
				{1, -1, false}, {1, 0, true}, {1, 1, true},
				{2, -1, false}, {2, 0, true}, {900, 0, true}, {1, 900, true}, {-900, 900, false}, {900, -900, false},
			} {
				b := api.Block{View: voted + of.view, Justify: api.Cert{View: locked + of.cert}}
				checkVote(t, s, b, of.want)
			}
		}
	}
}

func TestFarApart(t *testing.T) {
	checkVote(t, rule.State{Voted: math.MinInt, Locked: math.MinInt}, of(math.MaxInt, math.MaxInt), true)
	checkVote(t, rule.State{Voted: math.MinInt, Locked: math.MinInt}, of(math.MinInt+1, math.MinInt), true)
	checkVote(t, rule.State{Voted: math.MinInt, Locked: math.MinInt}, of(math.MinInt, math.MinInt), false)
	checkVote(t, rule.State{Voted: math.MaxInt, Locked: math.MinInt}, of(math.MaxInt, math.MaxInt), false)
	checkVote(t, rule.State{Voted: math.MaxInt, Locked: math.MinInt}, of(math.MinInt, math.MaxInt), false)
	checkVote(t, rule.State{Voted: math.MaxInt - 1, Locked: math.MaxInt}, of(math.MaxInt, math.MaxInt), true)
	checkVote(t, rule.State{Voted: math.MaxInt - 1, Locked: math.MaxInt}, of(math.MaxInt, math.MaxInt-1), false)
	checkVote(t, rule.State{Voted: math.MinInt, Locked: math.MaxInt}, of(math.MaxInt, math.MinInt), false)
}

// Voted and Locked are two things: neither stands for the other.
func TestApart(t *testing.T) {
	checkVote(t, rule.State{Voted: 3, Locked: 8}, of(4, 3), false)
	checkVote(t, rule.State{Voted: 3, Locked: 8}, of(9, 3), false)
	checkVote(t, rule.State{Voted: 3, Locked: 8}, of(4, 8), true)
	checkVote(t, rule.State{Voted: 8, Locked: 3}, of(9, 3), true)
	checkVote(t, rule.State{Voted: 8, Locked: 3}, of(8, 7), false)
	checkVote(t, rule.State{Voted: 8, Locked: 3}, of(4, 9), false)
}

// What a block has beside its views is all one, be it right or not.
func TestTheRestIsAllOne(t *testing.T) {
	for _, b := range []api.Block{
		{},
		{Proposer: 3, Batch: []api.Request{{Client: 1, Seq: 1, Body: "a"}}},
		{Proposer: -7, Batch: make([]api.Request, 9)},
		{Justify: api.Cert{Block: "x", Sigs: []api.Sig{{From: 2, Tags: []string{"t"}}, {From: 1}}}},
		{Justify: api.Cert{Block: block.First(), Sigs: make([]api.Sig, 9)}},
	} {
		for view, want := range []bool{false, false, false, false, true, true} {
			b.View, b.Justify.View = view, 2
			checkVote(t, rule.State{Voted: 3, Locked: 2}, b, want)
			b.Justify.View = 1
			checkVote(t, rule.State{Voted: 3, Locked: 2}, b, false)
		}
	}
}

// Votes one behind the other, each block on the certificate of the one ahead.
func TestVotesAlongAChain(t *testing.T) {
	s := rule.State{}
	for view := 1; view <= 50; view++ {
		b := of(view, view-1)
		checkVote(t, s, b, true)
		s, _ = rule.Vote(s, b)
		if s != (rule.State{Voted: view}) {
			t.Fatal(view, s)
		}
		for again := range view + 1 {
			checkVote(t, s, of(again, view-1), false)
		}
	}
}

// roomy is a block with lists that have spare room.
func roomy(view int, c api.Cert) api.Block {
	tags := append(make([]string, 0, 9), "t", "u")
	c.Sigs = append(make([]api.Sig, 0, 9), api.Sig{From: 1, Tags: tags}, api.Sig{From: 2})
	batch := append(make([]api.Request, 0, 9), api.Request{Client: 1, Seq: 1, Body: "a"}, api.Request{Client: 2, Seq: 2, Body: "b"})
	return api.Block{View: view, Proposer: 1, Justify: c, Batch: batch}
}

// whole is a block as text, spare room and all.
func whole(b api.Block) string {
	return fmt.Sprint(b, b.Batch[:cap(b.Batch)]) + wholeCert(b.Justify)
}

func wholeCert(c api.Cert) string {
	sigs := c.Sigs[:cap(c.Sigs)]
	s := fmt.Sprint(c, sigs)
	for _, x := range sigs {
		s += fmt.Sprint(x.Tags[:cap(x.Tags)])
	}
	return s
}

func TestTheBlockIsLeft(t *testing.T) {
	b := roomy(4, api.Cert{View: 2, Block: block.First()})
	was := whole(b)
	for _, s := range []rule.State{{Voted: 3, Locked: 2}, {Voted: 4, Locked: 2}, {Voted: 3, Locked: 3}} {
		kept := s
		rule.May(s, b)
		rule.Vote(s, b)
		if now := whole(b); now != was || s != kept {
			t.Errorf("%s, not %s", now, was)
		}
	}
}
