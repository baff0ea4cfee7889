package tally_test

import (
	"math"
	"testing"

	"comitia/api"
	"comitia/tally"
)

// fill adds a vote of each node for a, in each of the views.
func (x reader) fill(views ...int) {
	for _, view := range views {
		for from := range x.n {
			x.Add(view, a, voteOf(from, x.n, view, a))
		}
	}
}

// Views up to the one that was told go, and aren't taken any more; the next
// one is.
func TestBelow(t *testing.T) {
	eachReader(t, func(x reader) {
		x.fill(3, 1, 4, 2)
		x.Below(2)
		x.check(group{1, a, 0}, group{2, a, 0}, group{3, a, x.n}, group{4, a, x.n})
		for from := range x.n {
			for _, view := range []int{1, 2} {
				x.refused(view, a, voteOf(from, x.n, view, a))
				x.refused(view, b, voteOf(from, x.n, view, b))
			}
		}
		x.Below(3)
		x.check(group{1, a, 0}, group{2, a, 0}, group{3, a, 0}, group{4, a, x.n})
		x.refused(3, a, voteOf(0, x.n, 3, a))
		x.fill(5)
		x.check(group{4, a, x.n}, group{5, a, x.n})
		x.Below(5)
		x.check(group{4, a, 0}, group{5, a, 0})
		x.refused(5, a, voteOf(0, x.n, 5, a))
		x.fill(6)
		x.check(group{6, a, x.n})
	})
}

// For all views that are told, and all in which there is a vote.
func TestBelowEach(t *testing.T) {
	for told := -1; told <= 6; told++ {
		x := newReader(t, 1, 4)
		x.fill(4, 2, 1)
		x.Below(told)
		var left []group
		for view := 1; view <= 5; view++ {
			votes := 0
			if view > told && view != 3 && view != 5 {
				votes = 4
			}
			left = append(left, group{view, a, votes})
		}
		x.check(left...)
		for _, view := range []int{3, 5} {
			if view > told {
				x.taken(view, b, voteOf(2, 4, view, b))
			} else {
				x.refused(view, b, voteOf(2, 4, view, b))
			}
		}
	}
}

// A lesser one than the last one changes nothing, nor does the last one again.
func TestLesserBelow(t *testing.T) {
	eachReader(t, func(x reader) {
		x.Below(4)
		x.fill(5, 6)
		for _, view := range []int{4, 3, 1, 0, -1, math.MinInt32, math.MinInt} {
			x.Below(view)
			x.check(group{5, a, x.n}, group{6, a, x.n})
			for _, old := range []int{1, 2, 3, 4} {
				x.refused(old, a, voteOf(0, x.n, old, a))
			}
		}
		x.Below(5)
		x.Below(4)
		x.refused(5, a, voteOf(0, x.n, 5, a))
		x.check(group{6, a, x.n})
	})
}

// A number below 1 changes nothing, ahead of any vote or behind some.
func TestBelowNothing(t *testing.T) {
	for _, view := range []int{0, -1, math.MinInt32, math.MinInt} {
		eachReader(t, func(x reader) {
			x.Below(view)
			x.check()
			for _, no := range oddViews {
				x.refused(no, a, voteOf(0, x.n, no, a))
			}
			x.fill(1)
			x.Below(view)
			x.fill(2)
			x.check(group{1, a, x.n}, group{2, a, x.n})
		})
	}
}

// Told ahead of any vote, it holds as well.
func TestBelowAhead(t *testing.T) {
	for _, view := range []int{1, 5, 255, 256, 65536, api.MaxView - 1} {
		x := newReader(t, 3, 4)
		x.Below(view)
		x.check()
		for _, old := range []int{1, view / 2, view - 1, view} {
			x.refused(old, a, voteOf(1, 4, old, a))
		}
		x.taken(view+1, a, voteOf(1, 4, view+1, a))
	}
}

// Behind the greatest view nothing is taken, and nothing is left.
func TestBelowAll(t *testing.T) {
	for _, view := range []int{api.MaxView, api.MaxView + 1, math.MaxInt32, 1 << 32, math.MaxInt} {
		eachReader(t, func(x reader) {
			x.fill(1, api.MaxView)
			x.Below(view)
			x.check()
			for _, any := range append([]int{1, 7, api.MaxView}, oddViews...) {
				x.refused(any, a, voteOf(0, x.n, any, a))
			}
		})
	}
}

// What is left counts on, for the blocks and views that it was of.
func TestLeftCountsOn(t *testing.T) {
	x := newReader(t, 0, 4)
	left := votesOf(4, 6, b, 3, 1)
	x.taken(5, a, voteOf(0, 4, 5, a))
	x.taken(6, b, left[0])
	x.taken(4, a, voteOf(1, 4, 4, a))
	x.taken(6, a, voteOf(2, 4, 6, a))
	x.taken(5, a, voteOf(3, 4, 5, a))
	x.taken(6, b, left[1])
	x.taken(7, a, voteOf(1, 4, 7, a))
	x.Below(5)
	x.check(group{5, a, 0}, group{6, b, 2}, group{6, a, 1}, group{7, a, 1})
	for _, from := range []int{1, 2, 3} {
		x.refused(6, c, voteOf(from, 4, 6, c))
	}
	last := voteOf(0, 4, 6, b)
	x.some(6, b, last, append(left, last)...)
	x.check(group{6, b, 3}, group{6, a, 1}, group{7, a, 1})
}

// spread is so many votes, no two of which are of one view: of each the view
// and the node, by the nodes in turn.
func (x reader) spread(first, votes int) {
	for i := range votes {
		x.Add(first+i, a, voteOf(i%x.n, x.n, first+i, a))
	}
}

// There is room for 4 times n votes: for one less, and one more, and for none
// more; not even for a quorum.
func TestRoom(t *testing.T) {
	eachReader(t, func(x reader) {
		most := 4 * x.n
		x.spread(100, most-1)
		if x.Len() != most-1 {
			t.Error(x.Len())
		}
		last := voteOf(0, x.n, 99, a)
		if x.n == 1 {
			x.some(99, a, last, last)
		} else {
			x.taken(99, a, last)
		}
		for from := range x.n {
			x.refused(50, a, voteOf(from, x.n, 50, a))
			x.refused(99, a, voteOf(from, x.n, 99, a))
		}
		if x.Len() != most {
			t.Error(x.Len())
		}
		x.Below(98)
		x.refused(200, a, voteOf(0, x.n, 200, a))
		x.Below(99)
		x.fill(200)
		if x.Len() != most || x.Count(200, a) != 1 {
			t.Error(x.Len(), x.Count(200, a))
		}
	})
}

// The last vote that there is room for may make a certificate; the one behind
// it may not.
func TestQuorumInTheLastRoom(t *testing.T) {
	eachReader(t, func(x reader) {
		q := quorums[x.n]
		l := votesOf(x.n, 5, b, span(x.n)[:q]...)
		for _, less := range []int{0, 1} {
			x.Tally = tally.New(seed, x.to, x.n)
			x.spread(10, 4*x.n-q+less)
			for _, s := range l[:q-1] {
				x.taken(5, b, s)
			}
			if less == 0 {
				x.some(5, b, l[q-1], l...)
			} else {
				x.refused(5, b, l[q-1])
				x.Below(4)
				x.refused(5, b, l[q-1])
			}
		}
		x.Below(10)
		x.refused(5, b, l[q-1])
	})
}

// What is no vote takes no room, and what found none may come again.
func TestRoomAgain(t *testing.T) {
	eachReader(t, func(x reader) {
		x.spread(10, 4*x.n-1)
		for range 9 {
			x.refused(10, b, voteOf(0, x.n, 10, b))
			x.refused(5, b, voteOf(0, x.n, 6, b))
			x.refused(0, b, voteOf(0, x.n, 0, b))
		}
		x.fill(300)
		x.Below(10)
		came := votesOf(x.n, 300, a, span(x.n)...)
		for i := 1; i < x.n; i++ {
			x.refused(10+i, b, voteOf(i, x.n, 10+i, b))
			if i+1 == quorums[x.n] {
				x.some(300, a, came[i], came[:i+1]...)
			} else {
				x.taken(300, a, came[i])
			}
			x.refused(300, b, voteOf(i, x.n, 300, b))
			x.refused(301, a, voteOf(i, x.n, 301, a))
			x.Below(10 + i)
		}
		x.check(append(x.spreadGroups(10+x.n, 3*x.n-1), group{300, a, x.n})...)
	})
}

func (x reader) spreadGroups(first, votes int) []group {
	var l []group
	for i := range votes {
		l = append(l, group{first + i, a, 1})
	}
	return l
}
