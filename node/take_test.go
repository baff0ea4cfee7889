package node_test

import (
	"slices"
	"testing"

	"comitia/api"
	"comitia/block"
	"comitia/rule"
	"comitia/wire"
)

// A certificate whose block isn't there is asked for, and learned when the block
// comes; of no other block.
func TestCertificateAheadOfItsBlock(t *testing.T) {
	n := 4
	l := chain(n, 1, 2, 3)
	for from := range n {
		x := newTwin(t, 2, n)
		x.handle(finds(0, 2, l[0]))
		got := x.handle(tells(from, 2, 1, certified(n, l[1])))
		if from == 2 {
			sent(t, got)
		} else {
			sent(t, got, fetches(2, from, block.Digest(l[1]), 0))
		}
		x.is(1, 0, rule.State{}, 0, 0, 0)
		x.handle(finds(1, 2, side(n, 1)))
		x.is(1, 0, rule.State{}, 0, 0, 0)
		x.handle(finds(1, 2, l[1]))
		x.is(3, 2, rule.State{Locked: 1}, 0, 0, 0)
		// It is learned once: a later one may wait then, though its view is less.
		x.handle(finds(1, 2, l[1]))
		x.is(3, 2, rule.State{Locked: 1}, 0, 0, 0)
	}
}

// Behind its block a certificate is learned at once.
func TestCertificateBehindItsBlock(t *testing.T) {
	n := 4
	l := chain(n, 1, 2)
	x := newTwin(t, 2, n)
	x.handle(found(0, 2, l...)...)
	x.is(2, 1, rule.State{}, 0, 0, 0)
	sent(t, x.handle(tells(1, 2, 1, certified(n, l[1]))))
	x.is(3, 2, rule.State{Locked: 1}, 0, 0, 0)
}

// Of two that can't be learned yet the one of the greater view waits, and of two
// of one view the later one; the other is asked for, too, but forgotten.
func TestCertificatesThatWait(t *testing.T) {
	n := 4
	same := first(n, 5, req(3, 3))
	for _, test := range []struct {
		first, second, waits api.Block
	}{
		{side(n, 5), side(n, 6), side(n, 6)},
		{side(n, 6), side(n, 5), side(n, 6)},
		{side(n, 5), same, same},
		{same, side(n, 5), side(n, 5)},
	} {
		x := newTwin(t, 0, n)
		sent(t, x.handle(tells(1, 0, 1, certified(n, test.first))), fetches(0, 1, block.Digest(test.first), 0))
		sent(t, x.handle(tells(2, 0, 1, certified(n, test.second))), fetches(0, 2, block.Digest(test.second), 0))
		for _, b := range []api.Block{side(n, 5), side(n, 6), same} {
			y := openTwin(t, 0, n, "")
			y.handle(tells(1, 0, 1, certified(n, test.first)), tells(2, 0, 1, certified(n, test.second)))
			y.handle(finds(3, 0, b))
			if got, want := y.High().View, b.View; block.Same(b, test.waits) != (got == want) {
				t.Errorf("%d and %d, then %d: %d", test.first.View, test.second.View, b.View, got)
			}
		}
	}
}

// One whose view isn't above the highest one's is of no use: its block isn't
// asked for, and nothing comes of it when it is there.
func TestCertificateOfNoUse(t *testing.T) {
	n := 4
	a, b := side(n, 5), first(n, 5, req(3, 3))
	for view, use := range map[int]bool{4: false, 5: false, 6: true} {
		x := newTwin(t, 1, n)
		x.handle(finds(0, 1, a), tells(0, 1, 1, certified(n, a)))
		c := certified(n, b)
		if view != 5 {
			c = certified(n, side(n, view))
			b = side(n, view)
		}
		got := x.handle(tells(3, 1, 1, c))
		if use {
			sent(t, got, fetches(1, 3, block.Digest(b), 0))
		} else {
			sent(t, got)
		}
		x.handle(finds(0, 1, b))
		if got := x.High().View; got != max(5, view) || x.High().Block == block.Digest(b) != use {
			t.Error(view, got)
		}
	}
}

// A certificate that waited may be below the highest one by the time its block
// comes: it is learned all the same, and may commit.
func TestCertificateThatWaitedLong(t *testing.T) {
	n := 4
	l := chain(n, 1, 2, 3)
	s := side(n, 9)
	x := newTwin(t, 1, n)
	x.handle(found(0, 1, l[0], l[1], s)...)
	x.handle(tells(0, 1, 1, certified(n, l[2])))
	x.handle(tells(0, 1, 1, certified(n, s)))
	x.is(10, 9, rule.State{}, 0, 0, 0)
	x.handle(finds(2, 1, l[2]))
	x.is(10, 9, rule.State{Locked: 2}, 1, 1, 0)
}

// With one waiting, a block that isn't its own changes nothing about it; when it
// was learned, the next one may wait, whatever its view.
func TestCertificateWaitsOnce(t *testing.T) {
	n := 4
	x := newTwin(t, 1, n)
	x.handle(tells(0, 1, 1, certified(n, side(n, 5))))
	x.handle(finds(0, 1, side(n, 3)), finds(0, 1, side(n, 5)))
	x.is(6, 5, rule.State{}, 0, 0, 0)
	// Its block goes by a commit, and comes no more.
	l := chain(n, 6, 7, 8)
	x.handle(found(0, 1, l...)...)
	x.handle(tells(0, 1, 1, certified(n, l[2])))
	x.is(9, 8, rule.State{Locked: 7}, 1, 1, 0)
	b := on(n, l[2], 9)
	sent(t, x.handle(tells(3, 1, 1, certified(n, b))), fetches(1, 3, block.Digest(b), 1))
	x.handle(finds(3, 1, b))
	x.is(10, 9, rule.State{Locked: 8}, 2, 2, 0)
}

// An orphan's parent is asked for, from whoever sent the orphan, and each one
// that is missing, once; with it all stand, and are learned of.
func TestOrphans(t *testing.T) {
	n := 4
	l := chain(n, 1, 3, 5, 7)
	other := on(n, side(n, 2), 3)
	x := newTwin(t, 3, n)
	wants := func(from int, missing ...api.Block) []api.Msg {
		var all []api.Msg
		for _, b := range missing {
			all = append(all, fetches(3, from, block.Digest(b), 0))
		}
		return all
	}
	sent(t, x.handle(finds(1, 3, l[2])), wants(1, l[1])...)
	sent(t, x.handle(finds(2, 3, l[3])), wants(2, l[1])...)
	sent(t, x.handle(finds(0, 3, other)), wants(0, l[1], side(n, 2))...)
	// What comes again, or besides, has the same asked for, from whoever sent it.
	sent(t, x.handle(finds(0, 3, l[2])), wants(0, l[1], side(n, 2))...)
	sent(t, x.handle(finds(2, 3, side(n, 7))), wants(2, l[1], side(n, 2))...)
	sent(t, x.handle(finds(1, 3, l[1])), wants(1, side(n, 2), l[0])...)
	sent(t, x.handle(finds(3, 3, l[1])), wants(3, side(n, 2), l[0])...)
	x.is(1, 0, rule.State{}, 0, 0, 0)
	if l := x.stand(append(l, other)...); len(l) != 0 {
		t.Error(len(l))
	}
	sent(t, x.handle(finds(0, 3, l[0])), wants(0, side(n, 2))...)
	x.is(6, 5, rule.State{Locked: 3}, 0, 0, 0)
	if l := x.stand(append(l, other)...); len(l) != 4 {
		t.Error(len(l))
	}
	sent(t, x.handle(finds(1, 3, side(n, 2))))
	if l := x.stand(other); len(l) != 1 {
		t.Error(len(l))
	}
}

// With a commit orphans go: nothing is missing any more.
func TestOrphansGo(t *testing.T) {
	n := 4
	l := chain(n, 1, 2, 3, 4)
	x := newTwin(t, 1, n)
	orphan := on(n, side(n, 2), 9)
	missing := fetches(1, 2, orphan.Justify.Block, 0)
	sent(t, x.handle(finds(2, 1, orphan)), missing)
	sent(t, x.handle(found(2, 1, l[:3]...)...), missing, missing, missing)
	sent(t, x.handle(finds(2, 1, l[3])), answers(1, l[0].Batch, 0))
	missing.View = 1
	sent(t, x.handle(finds(2, 1, orphan)), missing)
}

// What stands newly is remembered in the order in which the forest put it: the
// first orphan whose parent is there, again and again.
func TestOrderOfWhatStands(t *testing.T) {
	n := 7
	root := first(n, 1, req(0, 1))
	a, b := on(n, root, 2, req(1, 1)), on(n, root, 2, req(2, 1))
	aa, bb := on(n, a, 3), on(n, b, 4)
	bbb := on(n, bb, 5)
	for _, test := range [][2][]api.Block{
		{{a, b, aa, bb, bbb}, {root, a, b, aa, bb, bbb}},
		{{bbb, bb, b, aa, a}, {root, b, bb, bbb, a, aa}},
		{{aa, bb, a, bbb, b}, {root, a, aa, b, bb, bbb}},
		{{bb, aa, b, a, bbb}, {root, b, bb, a, aa, bbb}},
	} {
		x := newTwin(t, 6, n)
		x.handle(found(1, 6, test[0]...)...)
		if x.log.Len() != 0 {
			t.Fatal("orphans are remembered")
		}
		x.handle(finds(1, 6, root))
		x.remembers(test[1]...)
		x.is(5, 4, rule.State{Locked: 2}, 0, 0, 0)
	}
}

// remembers ends the test, if these aren't the blocks that are remembered.
func (x *twin) remembers(l ...api.Block) {
	x.t.Helper()
	_, got := whole(written(x.log))
	got = slices.DeleteFunc(got, func(r string) bool { return r[0] != 'B' })
	var want []string
	for _, b := range l {
		want = append(want, "B"+wire.Block(b))
	}
	if !slices.Equal(got, want) {
		x.wrong("remembers", len(got), len(want))
	}
}

// Orphans that don't fit their parent are dropped: they neither stand, nor are
// they remembered or learned of.
func TestOrphansDropped(t *testing.T) {
	n := 4
	a := first(n, 3, req(0, 1))
	wrong := block.Make(6, n, certOf(n, 4, block.Digest(a)), nil)
	right := on(n, a, 5)
	x := newTwin(t, 1, n)
	x.handle(finds(2, 1, wrong), finds(2, 1, on(n, wrong, 7)), finds(2, 1, right))
	sent(t, x.handle(finds(2, 1, a)), fetches(1, 2, block.Digest(wrong), 0))
	x.is(4, 3, rule.State{}, 0, 0, 0)
	if got := x.stand(a, wrong, right, on(n, wrong, 7)); len(got) != 2 {
		t.Error(len(got))
	}
	x.remembers(a, right)
}

// There is room for so many orphans: one more is dropped, but what is missing
// is asked for all the same.
func TestTooManyOrphans(t *testing.T) {
	n := 4
	x := newTwin(t, 0, n)
	var want []api.Msg
	for view := 2; view <= 9; view++ {
		want = append(want, fetches(0, 1, block.Digest(side(n, view)), 0))
		sent(t, x.handle(finds(1, 0, on(n, side(n, view), 20))), want...)
	}
	sent(t, x.handle(finds(1, 0, on(n, side(n, 10), 20))), want...)
	x.handle(finds(1, 0, side(n, 10)))
	x.is(1, 0, rule.State{}, 0, 0, 0)
	x.handle(finds(1, 0, side(n, 9)))
	x.is(10, 9, rule.State{}, 0, 0, 0)
}

// A block that is committed, or whose view isn't above that of the chain's last
// one, isn't taken: nothing is asked for by it, either.
func TestPastBlocks(t *testing.T) {
	n := 4
	l := chain(n, 2, 4, 6, 7, 8)
	x := newTwin(t, 3, n)
	x.handle(found(0, 3, l...)...)
	x.handle(tells(0, 3, 1, certified(n, l[4])))
	x.is(9, 8, rule.State{Locked: 7}, 3, 3, 0)
	for view, past := range map[int]bool{1: true, 2: true, 5: true, 6: true, 7: false, 12: false} {
		b := on(n, first(n, view-1, req(3, 3)), view)
		if view == 1 {
			b = side(n, 1)
		}
		y := openTwin(t, 3, n, written(x.log))
		y.handle(tells(0, 3, 1, certified(n, l[4])))
		y.is(9, 8, rule.State{Locked: 7}, 3, 3, 0)
		if past {
			y.nothing(func() []api.Msg { return y.handle(finds(1, 3, b), proposes(3, b)) })
		} else {
			sent(t, y.handle(finds(1, 3, b)), fetches(3, 1, b.Justify.Block, 3))
			// While that is missing, what is past still has nothing asked for.
			y.nothing(func() []api.Msg { return y.handle(found(1, 3, l[:3]...)...) })
		}
	}
	x.nothing(func() []api.Msg { return x.handle(found(1, 3, l...)...) })
	x.nothing(func() []api.Msg { return x.handle(proposes(3, l[0]), proposes(3, l[2]), proposes(3, l[4])) })
}

// A chain whose last block has a lesser view than one ahead of it, as only a
// log that no node wrote has it: what is in it is known all the same.
func TestPastInTheChain(t *testing.T) {
	n := 4
	l := chain(n, 5, 6, 7)
	// On the root a block's view isn't asked for.
	b := block.Make(2, n, certOf(n, 1, block.Digest(l[0])), nil)
	c, d, e := on(n, b, 3), api.Block{}, api.Block{}
	d = on(n, c, 4)
	e = on(n, d, 9)
	x := openTwin(t, 3, n, logOf(rule.State{}, append(l, on(n, l[2], 8), b, c, d, e)...))
	x.is(8, 7, rule.State{Locked: 6}, 2, 1, 0)
	if got := x.Committed(); got[1] != block.Digest(b) {
		t.Fatalf("%x", got)
	}
	x.nothing(func() []api.Msg { return x.handle(finds(0, 3, l[0]), proposes(3, l[0])) })
}

// Blocks of three views, one behind the other, and a certificate of the last
// one, commit the first one, and all on which it stands.
func TestCommit(t *testing.T) {
	n := 4
	for _, test := range []struct {
		views     []int
		committed int
	}{
		{[]int{1, 2, 3}, 1},
		{[]int{1, 2, 4}, 0},
		{[]int{1, 3, 4}, 0},
		{[]int{1, 2}, 0},
		{[]int{1, 3, 5, 6, 7}, 3},
		{[]int{1, 3, 4, 5}, 2},
		{[]int{2, 3, 4}, 1},
		{[]int{1, 2, 3, 5, 6}, 1},
		{[]int{1, 2, 3, 5, 6, 7}, 4},
	} {
		l := chain(n, test.views...)
		x := newTwin(t, 2, n)
		x.handle(found(0, 2, l...)...)
		x.handle(tells(0, 2, 1, certified(n, l[len(l)-1])))
		if got := len(x.Committed()); got != test.committed {
			t.Errorf("%v: %d are committed, not %d", test.views, got, test.committed)
		}
	}
}

// What is committed isn't waited for any more, and can't come back; what isn't
// on it goes from the forest.
func TestCommitPrunes(t *testing.T) {
	n := 4
	l := chain(n, 1, 2, 3)
	side2, onSide := side(n, 2), on(n, side(n, 2), 9)
	x := newTwin(t, 2, n)
	for _, b := range l {
		x.ask(b.Batch[0], api.OK)
	}
	x.ask(req(0, 99), api.OK)
	x.handle(append(found(0, 2, l...), found(0, 2, side2, onSide)...)...)
	x.is(3, 2, rule.State{Locked: 1}, 0, 0, 4)
	x.handle(tells(0, 2, 1, certified(n, l[2])))
	x.is(4, 3, rule.State{Locked: 2}, 1, 1, 3)
	if got := x.stand(l[0], l[1], l[2], side2, onSide); len(got) != 3 {
		t.Error(len(got))
	}
	sent(t, of(api.Ask, x.ask(l[0].Batch[0], api.OK)))
	if x.Waits() != 3 {
		t.Error(x.Waits())
	}
}

// Each block that stands newly is learned of, in that order, also if it is
// pruned by what the one ahead of it commits.
func TestCommitAmidWhatStands(t *testing.T) {
	n := 4
	l := chain(n, 1, 2, 3, 4)
	s := on(n, side(n, 7), 8)
	for _, order := range [][]api.Block{{l[2], s, l[3]}, {s, l[2], l[3]}, {l[3], l[2], s}} {
		x := newTwin(t, 3, n)
		x.handle(finds(0, 3, side(n, 7)), finds(0, 3, l[0]))
		x.handle(found(1, 3, order...)...)
		x.handle(finds(2, 3, l[1]))
		x.is(8, 7, rule.State{Locked: 2}, 1, 1, 0)
		again := openTwin(t, 3, n, written(x.log))
		again.is(8, 7, rule.State{Locked: 2}, 1, 1, 0)
	}
	// Both of one parent: what commits is ahead of the other one, or behind it.
	b := on(n, l[0], 3)
	for _, order := range [][]api.Block{{l[1], l[2], l[3], b}, {b, l[1], l[2], l[3]}} {
		x := newTwin(t, 3, n)
		x.handle(found(1, 3, order...)...)
		x.handle(finds(2, 3, l[0]))
		x.is(4, 3, rule.State{Locked: 2}, 1, 1, 0)
		x.remembers(append([]api.Block{l[0]}, order...)...)
	}
}
