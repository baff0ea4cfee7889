package forest_test

import (
	"fmt"
	"slices"
	"testing"

	"comitia/api"
	"comitia/block"
	"comitia/forest"
)

const (
	greatest = 1<<63 - 1
	least    = -1 << 63
)

// on is a block on another one, with its view; the mark keeps siblings apart.
func on(parent api.Block, view, mark int) api.Block {
	return under(block.Digest(parent), parent.View, view, mark)
}

// root is a block on the first one.
func root(view, mark int) api.Block {
	return under(block.First(), 0, view, mark)
}

// under is a block of that view on a digest, by a certificate of another view.
func under(h api.Hash, certView, view, mark int) api.Block {
	return api.Block{View: view, Justify: api.Cert{View: certView, Block: h},
		Batch: []api.Request{{Client: 1, Seq: mark + 1}}}
}

// chain is so many blocks, each on the one ahead, with the views 1, 2, 3 ..
func chain(many int) []api.Block {
	l := []api.Block{root(1, 0)}
	for view := 2; view <= many; view++ {
		l = append(l, on(l[len(l)-1], view, 0))
	}
	return l[:many]
}

// star is so many blocks of the view 1, all on the first one.
func star(many int) []api.Block {
	var l []api.Block
	for mark := range many {
		l = append(l, root(1, mark))
	}
	return l
}

func put(t *testing.T, f *forest.Forest, want api.Errno, l ...api.Block) {
	t.Helper()
	for i, b := range l {
		if e := f.Put(b); e != want {
			t.Errorf("block %d of %d, of the view %d: %d, not %d", i, len(l), b.View, e, want)
		}
	}
}

// grown is a forest in which these were put.
func grown(t *testing.T, l ...api.Block) *forest.Forest {
	t.Helper()
	f := forest.New()
	put(t, f, api.OK, l...)
	return f
}

func digests(l ...api.Block) []api.Hash {
	var d []api.Hash
	for _, b := range l {
		d = append(d, block.Digest(b))
	}
	return d
}

func short(l []api.Hash) string {
	s := ""
	for _, h := range l {
		s += fmt.Sprintf(" %.4x", h)
	}
	return "[" + s + " ]"
}

// checkStand asks that just these stand, each as it was put.
func checkStand(t *testing.T, f *forest.Forest, l ...api.Block) {
	t.Helper()
	if f.Len() != len(l) {
		t.Errorf("%d stand, not %d", f.Len(), len(l))
	}
	for i, b := range l {
		if got, ok := f.Get(block.Digest(b)); !ok || !block.Same(got, b) {
			t.Errorf("block %d: %v %v, not %v", i, ok, got, b)
		}
	}
}

// checkWait asks that just these are orphans, in this order.
func checkWait(t *testing.T, f *forest.Forest, l ...api.Block) {
	t.Helper()
	if got, want := f.Orphans(), digests(l...); !slices.Equal(got, want) {
		t.Errorf("orphans %s, not %s", short(got), short(want))
	}
	for i, h := range digests(l...) {
		if b, ok := f.Get(h); ok || f.Has(h) || !isZero(b) {
			t.Errorf("orphan %d stands", i)
		}
	}
}

func checkMissing(t *testing.T, f *forest.Forest, want ...api.Hash) {
	t.Helper()
	if got := f.Missing(); !slices.Equal(got, want) {
		t.Errorf("missing %s, not %s", short(got), short(want))
	}
}

func isZero(b api.Block) bool {
	return b.View == 0 && b.Proposer == 0 && b.Justify.View == 0 && b.Justify.Block == "" &&
		len(b.Justify.Sigs) == 0 && len(b.Batch) == 0
}

// The chapter's example.
func TestChildAheadOfItsParent(t *testing.T) {
	a := root(1, 0)
	b := on(a, 2, 0)
	f := grown(t, b)
	checkStand(t, f)
	checkWait(t, f, b)
	checkMissing(t, f, block.Digest(a))
	put(t, f, api.OK, a)
	checkStand(t, f, a, b)
	checkWait(t, f)
	checkMissing(t, f)
}

func TestChain(t *testing.T) {
	l := chain(9)
	mixed := []api.Block{l[4], l[0], l[8], l[2], l[1], l[7], l[5], l[3], l[6]}
	back := slices.Clone(l)
	slices.Reverse(back)
	for what, order := range map[string][]api.Block{"in order": l, "in the other order": back, "mixed": mixed} {
		f := grown(t, order...)
		checkStand(t, f, l...)
		checkWait(t, f)
		for i, b := range l {
			if got := f.Height(block.Digest(b)); got != i+1 {
				t.Errorf("%s, block %d: the height %d", what, i, got)
			}
		}
	}
}

// A chain in the other order: each but the last one waits for an orphan.
func TestOrphansWaitForOrphans(t *testing.T) {
	l := chain(9)
	f := forest.New()
	var waiting []api.Block
	for i := 8; i > 0; i-- {
		put(t, f, api.OK, l[i])
		waiting = append(waiting, l[i])
		checkStand(t, f)
		checkWait(t, f, waiting...)
		checkMissing(t, f, block.Digest(l[i-1]))
	}
	put(t, f, api.OK, l[0])
	checkStand(t, f, l...)
	checkWait(t, f)
}

// A chain mixed, step by step: what stands, and what waits for what.
func TestChainMixed(t *testing.T) {
	l := chain(6)
	d := digests(l...)
	f := forest.New()
	for _, s := range []struct {
		put         int
		stand, wait []api.Block
		missing     []api.Hash
	}{
		{3, nil, []api.Block{l[3]}, d[2:3]},
		{5, nil, []api.Block{l[3], l[5]}, []api.Hash{d[2], d[4]}},
		{0, l[:1], []api.Block{l[3], l[5]}, []api.Hash{d[2], d[4]}},
		{2, l[:1], []api.Block{l[3], l[5], l[2]}, []api.Hash{d[4], d[1]}},
		{1, l[:4], []api.Block{l[5]}, d[4:5]},
		{4, l, nil, nil},
	} {
		put(t, f, api.OK, l[s.put])
		checkStand(t, f, s.stand...)
		checkWait(t, f, s.wait...)
		checkMissing(t, f, s.missing...)
	}
}

func TestBranches(t *testing.T) {
	a, b := root(1, 0), root(2, 0)
	a1, a2, b1 := on(a, 2, 0), on(a, 3, 0), on(b, 3, 0)
	a11, a12, b11 := on(a1, 4, 0), on(a1, 4, 1), on(b1, 4, 0)
	l := []api.Block{a, b, a1, a2, b1, a11, a12, b11}
	back := slices.Clone(l)
	slices.Reverse(back)
	for _, order := range [][]api.Block{
		l, back, {a1, b11, a, b, a12, a11, b1, a2}, {a11, a12, b11, b1, a1, a2, b, a}, {b, b11, a2, a12, b1, a, a11, a1},
	} {
		f := grown(t, order...)
		checkStand(t, f, l...)
		checkWait(t, f)
		checkMissing(t, f)
		for h, want := range map[api.Hash]int{block.Digest(a): 1, block.Digest(b): 1, block.Digest(a1): 2, block.Digest(a2): 2,
			block.Digest(b1): 2, block.Digest(a11): 3, block.Digest(a12): 3, block.Digest(b11): 3} {
			if got := f.Height(h); got != want {
				t.Errorf("height %d, not %d", got, want)
			}
		}
	}
}

// views are numbers as a block's or a certificate's view, wrong ones too.
var views = []int{least, -2, -1, 0, 1, 2, 3, 4, 5, 6, api.MaxView, api.MaxView + 1, 1 << 31, 1<<32 + 3, greatest - 1, greatest}

// Each error of order alone, and any of them together.
func TestOrder(t *testing.T) {
	for _, ahead := range views {
		parent := root(ahead, 0)
		for _, view := range views {
			for _, certView := range views {
				b := under(block.Digest(parent), certView, view, 1)
				want := api.ErrOrder
				if view > ahead && view > certView && certView == ahead {
					want = api.OK
				}
				checkOrder(t, parent, b, want)
			}
		}
	}
}

// checkOrder puts a block behind its parent, and ahead of it.
func checkOrder(t *testing.T, parent, b api.Block, want api.Errno) {
	t.Helper()
	behind, ahead := grown(t, parent), grown(t, b)
	if e := behind.Put(b); e != want {
		t.Errorf("view %d by %d on %d: %d, not %d", b.View, b.Justify.View, parent.View, e, want)
	}
	put(t, ahead, api.OK, parent)
	for _, f := range []*forest.Forest{behind, ahead} {
		if want == api.OK {
			checkStand(t, f, parent, b)
		} else {
			checkStand(t, f, parent)
		}
		checkWait(t, f)
	}
}

// The three ways in which a block doesn't go with its parent, by their names.
func TestOrderByName(t *testing.T) {
	parent := root(5, 0)
	h := block.Digest(parent)
	for _, c := range []struct {
		what           string
		certView, view int
		want           api.Errno
	}{
		{"as it should be", 5, 6, api.OK},
		{"as it should be, with views left out", 5, 60, api.OK},
		{"the parent's view", 5, 5, api.ErrOrder},
		{"below the parent's view", 5, 4, api.ErrOrder},
		{"the parent's view, above the certificate's", 4, 5, api.ErrOrder},
		{"below the parent's view, above the certificate's", 3, 4, api.ErrOrder},
		{"above the parent's view, the certificate's", 7, 7, api.ErrOrder},
		{"above the parent's view, below the certificate's", 8, 7, api.ErrOrder},
		{"a certificate of a lesser view", 4, 6, api.ErrOrder},
		{"a certificate of a greater view", 6, 7, api.ErrOrder},
		{"a certificate of the view 0", 0, 6, api.ErrOrder},
		{"all at once", 6, 5, api.ErrOrder},
	} {
		t.Log(c.what)
		checkOrder(t, parent, under(h, c.certView, c.view, 1), c.want)
	}
}

// A block on the root is asked for no view.
func TestOrderOnTheRoot(t *testing.T) {
	ahead := root(5, 0)
	for _, view := range views {
		for _, certView := range views {
			f := grown(t, under(block.First(), certView, view, 1))
			checkStand(t, f, under(block.First(), certView, view, 1))
			f = grown(t, ahead)
			f.Prune(block.Digest(ahead))
			b := under(block.Digest(ahead), certView, view, 1)
			put(t, f, api.OK, b)
			checkStand(t, f, b)
		}
	}
}

// A block on an orphan is one, too, whatever its views; it is asked for them
// when it would stand.
func TestOrderOnAnOrphan(t *testing.T) {
	a := root(5, 0)
	b := on(a, 6, 0)
	wrong := under(block.Digest(b), 6, 6, 0)
	right := on(b, 7, 0)
	f := grown(t, b, wrong, right)
	checkWait(t, f, b, wrong, right)
	checkMissing(t, f, block.Digest(a))
	put(t, f, api.OK, a)
	checkStand(t, f, a, b, right)
	checkWait(t, f)
}

// Orphans that turn out wrong are dropped; the others go on, and what waits
// for one that was dropped waits still.
func TestDropped(t *testing.T) {
	a := root(5, 0)
	h := block.Digest(a)
	old, other := under(h, 5, 5, 0), under(h, 4, 9, 0)
	right, last := on(a, 6, 0), on(a, 7, 0)
	onOld, onRight, onOther := on(old, 8, 0), on(right, 8, 0), on(other, 10, 0)
	f := grown(t, onRight, old, onOld, right, other, onOther, last)
	checkWait(t, f, onRight, old, onOld, right, other, onOther, last)
	checkMissing(t, f, h)
	put(t, f, api.OK, a)
	checkStand(t, f, a, right, onRight, last)
	checkWait(t, f, onOld, onOther)
	checkMissing(t, f, block.Digest(old), block.Digest(other))
	put(t, f, api.ErrOrder, old, other)
	put(t, f, api.ErrKnown, onOld, onOther, right, onRight, last, a)
	checkWait(t, f, onOld, onOther)
}

func TestKnown(t *testing.T) {
	l := chain(3)
	apart := on(root(7, 7), 8, 0)
	f := grown(t, append(l, apart)...)
	put(t, f, api.ErrKnown, l...)
	put(t, f, api.ErrKnown, apart, apart)
	checkStand(t, f, l...)
	checkWait(t, f, apart)

	// The root's digest, by the block that is the root.
	f.Prune(block.Digest(l[1]))
	put(t, f, api.ErrKnown, l[1], l[2])
	checkStand(t, f, l[2])
	checkWait(t, f)
}

// A block with other signatures, or with numbers that have the bytes of its
// own ones, has its digest.
func TestKnownByDigest(t *testing.T) {
	a := root(1, 0)
	b := on(a, 2, 0)
	signed := b
	signed.Justify.Sigs = []api.Sig{{From: 2, Tags: []string{"x"}}}
	for _, f := range []*forest.Forest{grown(t, a, b), grown(t, b, a)} {
		put(t, f, api.ErrKnown, signed)
		checkStand(t, f, a, b)
	}
	f := grown(t, signed, a)
	put(t, f, api.ErrKnown, b)
	checkStand(t, f, a, signed)

	f = grown(t, b)
	put(t, f, api.ErrKnown, signed)
	checkWait(t, f, b)
	put(t, f, api.OK, a)
	checkStand(t, f, a, b)
}

// What is known is told ahead of the order, and of the room.
func TestKnownAheadOfOrder(t *testing.T) {
	a := root(1, 0)
	// A view of 2^31 has the bytes of 0.
	b, below := on(a, 1<<31, 0), on(a, 0, 0)
	if block.Digest(b) != block.Digest(below) {
		t.Fatal("unlike digests")
	}
	f := grown(t, a, b)
	put(t, f, api.ErrKnown, below)
	put(t, grown(t, a), api.ErrOrder, below)
	if got, ok := f.Get(block.Digest(b)); !ok || got.View != 1<<31 {
		t.Error(got.View, ok)
	}
}

func TestMaxOrphans(t *testing.T) {
	a := root(1, 0)
	var l []api.Block
	for i := range api.MaxOrphans + 2 {
		l = append(l, on(a, 2+i, i))
	}
	for _, many := range []int{api.MaxOrphans - 1, api.MaxOrphans} {
		f := grown(t, l[:many]...)
		checkWait(t, f, l[:many]...)
		checkMissing(t, f, block.Digest(a))
	}
	f := grown(t, l[:api.MaxOrphans]...)
	// What is known is told ahead of the room.
	put(t, f, api.ErrKnown, l[0], l[3], l[7])
	// One whose parent is none, one whose parent is an orphan, one that would
	// turn out wrong: for all of them there is no room.
	put(t, f, api.ErrBusy, l[8], l[9], on(root(9, 9), 10, 0), on(l[0], 90, 0), under(block.Digest(a), 7, 1, 0), api.Block{})
	checkWait(t, f, l[:8]...)

	// What stands needs no room among the orphans.
	b := root(1, 1)
	c := on(b, 2, 1)
	put(t, f, api.OK, b, c)
	checkStand(t, f, b, c)
	put(t, f, api.ErrBusy, l[8])
	put(t, f, api.OK, a)
	checkStand(t, f, append([]api.Block{a, b, c}, l[:8]...)...)
	put(t, f, api.OK, l[8], on(root(9, 9), 10, 0))
	checkWait(t, f, on(root(9, 9), 10, 0))
}

// As many orphans as may be go on waiting; each that stands or is dropped
// leaves its room to another one.
func TestRoomForOrphansAgain(t *testing.T) {
	a, b := root(1, 0), root(1, 1)
	h := block.Digest(a)
	l := []api.Block{on(a, 2, 0), on(b, 2, 1), under(h, 9, 2, 2), on(b, 2, 3), on(b, 2, 4), on(b, 2, 5), on(b, 2, 6), on(b, 2, 7)}
	f := grown(t, l...)
	put(t, f, api.OK, a)
	checkStand(t, f, a, l[0])
	checkWait(t, f, l[1], l[3], l[4], l[5], l[6], l[7])
	more := []api.Block{on(b, 2, 8), on(l[1], 3, 0)}
	put(t, f, api.OK, more...)
	put(t, f, api.ErrBusy, on(b, 2, 9))
	checkWait(t, f, l[1], l[3], l[4], l[5], l[6], l[7], more[0], more[1])
}

func TestMaxBlocks(t *testing.T) {
	for what, l := range map[string][]api.Block{"chain": chain(api.MaxBlocks + 1), "star": star(api.MaxBlocks + 1)} {
		f := grown(t, l[:api.MaxBlocks-1]...)
		if f.Len() != api.MaxBlocks-1 {
			t.Error(what, f.Len())
		}
		put(t, f, api.OK, l[api.MaxBlocks-1])
		put(t, f, api.ErrBusy, l[api.MaxBlocks])
		checkStand(t, f, l[:api.MaxBlocks]...)
		checkWait(t, f)
	}
}

func TestErrorsOfAFullForest(t *testing.T) {
	l := star(api.MaxBlocks)
	f := grown(t, l...)
	apart := on(root(9, 9), 10, 0)
	put(t, f, api.ErrBusy, root(2, 0), root(greatest, 0), on(l[0], 2, 0), on(l[399], 2, 0))
	put(t, f, api.ErrKnown, l...)
	put(t, f, api.ErrOrder, on(l[0], 1, 0), under(block.Digest(l[399]), 0, 2, 0), under(block.Digest(l[7]), 2, 2, 0))
	// An orphan needs no room among what stands.
	put(t, f, api.OK, apart)
	put(t, f, api.ErrKnown, apart)
	checkStand(t, f, l...)
	checkWait(t, f, apart)
	f.Prune(block.Digest(l[5]))
	put(t, f, api.OK, on(l[5], 2, 0))
	checkStand(t, f, on(l[5], 2, 0))
}

// Room for so many is left when a parent comes for whom these wait.
func checkRoom(t *testing.T, room int, parent api.Block, wait, stand, still []api.Block) {
	t.Helper()
	l := star(api.MaxBlocks - room)
	f := grown(t, append(l, wait...)...)
	put(t, f, api.OK, parent)
	checkStand(t, f, append(append(slices.Clone(l), parent), stand...)...)
	checkWait(t, f, still...)
}

// When there is room for some of the orphans, or none, it goes to the first
// ones whose parents are there; the others are dropped.
func TestRoomForSome(t *testing.T) {
	p := root(2, 0)
	a, b, c := on(p, 3, 0), on(p, 3, 1), on(p, 3, 2)
	onA, onB := on(a, 4, 0), on(b, 4, 0)
	wrong, apart := under(block.Digest(p), 9, 3, 0), on(root(9, 9), 10, 0)
	type list = []api.Block
	for room, stand := range []list{nil, nil, {a}, {a, b}, {a, b, c}, {a, b, c}} {
		if room > 0 {
			checkRoom(t, room, p, list{a, b, c}, stand, nil)
		}
	}
	// Each time it is asked from the first orphan on, not from the last one put.
	for room, stand := range []list{nil, nil, {a}, {a, onA}, {a, onA, b}, {a, onA, b}} {
		if room > 0 {
			checkRoom(t, room, p, list{onA, a, b}, stand, map[int]list{1: {onA}}[room])
			checkRoom(t, room, p, list{a, onA, b}, stand, map[int]list{1: {onA}}[room])
		}
	}
	checkRoom(t, 3, p, list{onA, b, a}, list{b, a}, nil)
	checkRoom(t, 3, p, list{onB, onA, b, a}, list{b, onB}, list{onA})
	checkRoom(t, 4, p, list{onB, onA, b, a}, list{b, onB, a}, nil)
	checkRoom(t, 2, p, list{b, a, onA, onB}, list{b}, list{onA})
	// A wrong one takes no room, and who waits for another one stays.
	checkRoom(t, 2, p, list{wrong, apart, a}, list{a}, list{apart})
	checkRoom(t, 1, p, list{wrong, apart, a}, nil, list{apart})
	checkRoom(t, 3, p, list{wrong, onB, apart, a}, list{a}, list{onB, apart})
}

// What was dropped for want of room isn't known any more.
func TestDroppedForRoom(t *testing.T) {
	p := root(2, 0)
	a := on(p, 3, 0)
	onA := on(a, 4, 0)
	l := star(api.MaxBlocks - 1)
	f := grown(t, append(l, onA, a)...)
	put(t, f, api.OK, p)
	put(t, f, api.ErrBusy, a)
	put(t, f, api.ErrKnown, p, onA)
	checkWait(t, f, onA)
	checkMissing(t, f, block.Digest(a))
	f.Prune(block.Digest(p))
	put(t, f, api.OK, onA, a)
	checkStand(t, f, a, onA)
}

// Blocks that aren't right stand and wait as any other ones.
func TestNotRight(t *testing.T) {
	zero := api.Block{}
	many := api.Block{View: -1, Proposer: least, Justify: api.Cert{View: -1, Block: block.First(), Sigs: make([]api.Sig, 30)},
		Batch: make([]api.Request, 1000)}
	odd := api.Block{View: greatest, Justify: api.Cert{View: -1, Block: block.Digest(many)}}
	f := grown(t, zero, odd, many)
	checkStand(t, f, many, odd)
	checkWait(t, f, zero)
	checkMissing(t, f, "")
	put(t, f, api.ErrKnown, zero, odd, many)
}
