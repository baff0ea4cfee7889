package tally_test

import (
	"fmt"
	"math/rand/v2"
	"slices"
	"testing"

	"comitia/api"
	"comitia/mac"
	"comitia/tally"
)

// A plain tally does what the chapter says, word by word.
type plain struct {
	to, n, told int
	votes       []came
}

type came struct {
	view  int
	block api.Hash
	sig   api.Sig
}

// holds is the chapter of mac's word, for a vote.
func (p *plain) holds(v came) bool {
	for _, tag := range v.sig.Tags {
		if len(tag) != 16 {
			return false
		}
	}
	return p.n >= 1 && p.n <= 7 && p.to >= 0 && p.to < p.n && v.sig.From >= 0 && v.sig.From < p.n && len(v.sig.Tags) == p.n &&
		v.sig.Tags[p.to] == mac.Tag(seed, v.sig.From, p.to, textOf(v.view, v.block))
}

// add tells whether it is a vote, and of which signatures a certificate comes.
func (p *plain) add(v came) (bool, []api.Sig) {
	if v.view < 1 || v.view > 1000000 || v.view <= p.told || len(v.block) != 32 || !p.holds(v) || len(p.votes) >= 4*p.n {
		return false, nil
	}
	for _, w := range p.votes {
		if w.view == v.view && w.sig.From == v.sig.From {
			return false, nil
		}
	}
	p.votes = append(p.votes, v)
	if l := p.of(v.view, v.block); len(l) == quorums[p.n] {
		return true, l
	}
	return true, nil
}

func (p *plain) of(view int, block api.Hash) []api.Sig {
	var l []api.Sig
	for _, v := range p.votes {
		if v.view == view && v.block == block {
			l = append(l, v.sig)
		}
	}
	return l
}

func (p *plain) below(view int) {
	if view < p.told {
		return
	}
	p.told = view
	var left []came
	for _, v := range p.votes {
		if v.view > view {
			left = append(left, v)
		}
	}
	p.votes = left
}

// groups are the votes by views and blocks.
func (p *plain) groups() []group {
	var l []group
	for _, v := range p.votes {
		g := group{v.view, v.block, len(p.of(v.view, v.block))}
		if !slices.Contains(l, g) {
			l = append(l, g)
		}
	}
	return l
}

// A call is one that a tally and a plain one are asked alike; it tells
// whether there was a vote, and whether there was a certificate.
type call struct {
	name string
	ask  func(x reader, p *plain) (bool, bool)
}

func addCall(v came) call {
	name := fmt.Sprintf("Add(%d, %.3q, %d)", v.view, v.block, v.sig.From)
	return call{name, func(x reader, p *plain) (bool, bool) {
		vote, of := p.add(v)
		switch {
		case len(of) > 0:
			x.some(v.view, v.block, v.sig, of...)
		case vote:
			x.taken(v.view, v.block, v.sig)
		default:
			x.refused(v.view, v.block, v.sig)
		}
		return vote, len(of) > 0
	}}
}

func belowCall(view int) call {
	return call{fmt.Sprint("Below ", view), func(x reader, p *plain) (bool, bool) {
		x.Below(view)
		p.below(view)
		return false, false
	}}
}

// All calls so many deep, of few votes.
func whateverCalls(t *testing.T, n, deep int, calls []call) {
	total := 1
	for range deep {
		total *= len(calls)
	}
	votes, certs := 0, 0
	for which := range total {
		x, p := newReader(t, which%n, n), &plain{to: which % n, n: n}
		var names []string
		for range deep {
			next := calls[which%len(calls)]
			which /= len(calls)
			names = append(names, next.name)
			vote, certified := next.ask(x, p)
			if vote {
				votes++
			}
			if certified {
				certs++
			}
		}
		x.check(p.groups()...)
		if t.Failed() {
			t.Fatal(names)
		}
	}
	if votes < total/2 || certs < total/100 {
		t.Error("that is no trial", votes, certs)
	}
}

func TestWhateverFourCalls(t *testing.T) {
	calls := []call{belowCall(-1), belowCall(0), belowCall(1), belowCall(2)}
	for _, view := range []int{1, 2} {
		for _, block := range []api.Hash{a, b} {
			for from := range 2 {
				calls = append(calls, addCall(came{view, block, voteOf(from, 2, view, block)}))
			}
		}
	}
	calls = append(calls, addCall(came{2, a, voteOf(1, 2, 2, b)}), addCall(came{2, a, voteOf(2, 2, 2, a)}), addCall(came{0, a, voteOf(0, 2, 0, a)}))
	whateverCalls(t, 2, 4, calls)
}

// One node alone has room for four votes.
func TestWhateverSixCalls(t *testing.T) {
	calls := []call{belowCall(1), belowCall(3)}
	for view := 1; view <= 5; view++ {
		calls = append(calls, addCall(came{view, a, voteOf(0, 1, view, a)}))
	}
	whateverCalls(t, 1, 6, calls)
}

// someVote is a vote at random, now and then one that can't be.
func someVote(r *rand.Rand, n, views int) came {
	view, block, from := 1+r.IntN(views), []api.Hash{a, a, a, b, c}[r.IntN(5)], r.IntN(n)
	switch r.IntN(25) {
	case 0:
		view = oddViews[r.IntN(len(oddViews))]
	case 1:
		block = []api.Hash{"", a[:31], a + "a"}[r.IntN(3)]
	case 2:
		from = []int{-1, n, n + 1, 7, 20}[r.IntN(5)]
	case 3:
		return came{view, block, voteOf(from, n, view+1, block)}
	case 4:
		return came{view, block, voteOf(from, n-1+2*r.IntN(2), view, block)}
	case 5:
		s := voteOf(from, n, view, block)
		s.Tags[r.IntN(n)] = []string{"", "of sixteen bytes", "of seventeen byte"}[r.IntN(3)]
		return came{view, block, s}
	}
	return came{view, block, voteOf(from, n, view, block)}
}

// Whatever calls, at random, of few views and of many.
func TestWhateverCalls(t *testing.T) {
	r := rand.New(rand.NewPCG(14, 1))
	votes, certs, full := 0, 0, 0
	for range 300 {
		n := 1 + r.IntN(api.MaxNodes)
		views := []int{1, 3, 6, 40}[r.IntN(4)]
		x, p := newReader(t, r.IntN(n), n), &plain{}
		p.to, p.n = x.to, n
		for range 120 {
			next := addCall(someVote(r, n, views))
			if r.IntN(30) == 0 {
				next = belowCall(r.IntN(views+3) - 2 - r.IntN(views))
			}
			vote, certified := next.ask(x, p)
			if vote {
				votes++
			}
			if certified {
				certs++
			}
			if len(p.votes) == 4*n {
				full++
			}
			x.check(p.groups()...)
			if t.Failed() {
				t.Fatal(next.name)
			}
		}
	}
	if votes < 2000 || certs < 200 || full < 1000 {
		t.Error("that is no trial", votes, certs, full)
	}
}

// A plain tally and one at random that can't be.
func TestWhateverTally(t *testing.T) {
	r := rand.New(rand.NewPCG(14, 2))
	taken := 0
	for range 3000 {
		n, to, tags := r.IntN(12)-2, r.IntN(12)-2, 1+r.IntN(8)
		if r.IntN(2) == 0 {
			tags = max(n, 1)
		}
		x, p := reader{t, to, n, tally.New(seed, to, n)}, &plain{to: to, n: n}
		for range 4 {
			v := someVote(r, tags, 2)
			if vote, _ := addCall(v).ask(x, p); vote {
				taken++
			}
		}
		if t.Failed() {
			t.Fatal(to, n, tags)
		}
	}
	if taken < 500 {
		t.Error("that is no trial", taken)
	}
}
