package forest_test

import (
	"testing"

	"comitia/api"
	"comitia/block"
	"comitia/forest"
)

// A wood is a forest that parts at several blocks, with two orphans.
type wood struct {
	f                         *forest.Forest
	a, a1, a2, a11, a12, a111 api.Block // a, what stands on it, and on that
	b, b1                     api.Block
	gone, apart, onApart      api.Block // gone, on a111, never came
}

func grownWood(t *testing.T) wood {
	t.Helper()
	w := wood{a: root(1, 0), b: root(2, 1)}
	w.a1, w.a2, w.b1 = on(w.a, 2, 0), on(w.a, 3, 1), on(w.b, 4, 0)
	w.a11, w.a12 = on(w.a1, 5, 0), on(w.a1, 6, 1)
	w.a111 = on(w.a11, 7, 0)
	w.gone = on(w.a111, 8, 0)
	w.apart = on(w.gone, 9, 0)
	w.onApart = on(w.apart, 10, 0)
	w.f = grown(t, w.onApart, w.a, w.b, w.a1, w.apart, w.a2, w.b1, w.a11, w.a12, w.a111)
	return w
}

func (w wood) all() []api.Block {
	return []api.Block{w.a, w.b, w.a1, w.a2, w.b1, w.a11, w.a12, w.a111, w.gone, w.apart, w.onApart}
}

// checkPruned asks that h is the root at that height, that these stand, and
// that of the wood nothing else is there.
func (w wood) checkPruned(t *testing.T, h api.Hash, height int, l ...api.Block) {
	t.Helper()
	checkRoot(t, w.f, h, height)
	checkStand(t, w.f, l...)
	checkWait(t, w.f)
	checkMissing(t, w.f)
	there := map[api.Hash]struct{}{h: {}}
	for _, x := range digests(l...) {
		there[x] = struct{}{}
		if !w.f.Extends(x, h) || w.f.Extends(h, x) {
			t.Errorf("%.4x isn't on the root", x)
		}
	}
	for _, x := range append(digests(w.all()...), block.First()) {
		if _, ok := there[x]; !ok {
			checkNowhere(t, w.f, x, append(digests(l...), h)...)
		}
	}
}

func prune(t *testing.T, f *forest.Forest, h api.Hash, want api.Errno) {
	t.Helper()
	if e := f.Prune(h); e != want {
		t.Errorf("%.4x: %d, not %d", h, e, want)
	}
}

func TestPruneAtTheRoot(t *testing.T) {
	w := grownWood(t)
	checkWait(t, w.f, w.onApart, w.apart)
	prune(t, w.f, block.First(), api.OK)
	w.checkPruned(t, block.First(), 0, w.a, w.b, w.a1, w.a2, w.b1, w.a11, w.a12, w.a111)

	prune(t, w.f, block.Digest(w.a), api.OK)
	put(t, w.f, api.OK, w.apart)
	prune(t, w.f, block.Digest(w.a), api.OK)
	w.checkPruned(t, block.Digest(w.a), 1, w.a1, w.a2, w.a11, w.a12, w.a111)
}

func TestPruneAtALeaf(t *testing.T) {
	for height, leaf := range map[int]func(wood) api.Block{
		2: func(w wood) api.Block { return w.b1 },
		3: func(w wood) api.Block { return w.a12 },
		4: func(w wood) api.Block { return w.a111 },
	} {
		w := grownWood(t)
		h := block.Digest(leaf(w))
		prune(t, w.f, h, api.OK)
		w.checkPruned(t, h, height)
		prune(t, w.f, h, api.OK)
		w.checkPruned(t, h, height)
	}
}

// At a block with branches on each side.
func TestPruneInTheMidst(t *testing.T) {
	w := grownWood(t)
	prune(t, w.f, block.Digest(w.a1), api.OK)
	w.checkPruned(t, block.Digest(w.a1), 2, w.a11, w.a12, w.a111)
	for b, height := range map[*api.Block]int{&w.a11: 3, &w.a12: 3, &w.a111: 4} {
		if got := w.f.Height(block.Digest(*b)); got != height {
			t.Errorf("the height %d, not %d", got, height)
		}
	}
	checkPath(t, w.f, block.Digest(w.a1), block.Digest(w.a111), digests(w.a11, w.a111), true)
	prune(t, w.f, block.Digest(w.a11), api.OK)
	w.checkPruned(t, block.Digest(w.a11), 3, w.a111)
	prune(t, w.f, block.Digest(w.a111), api.OK)
	w.checkPruned(t, block.Digest(w.a111), 4)

	w = grownWood(t)
	prune(t, w.f, block.Digest(w.a), api.OK)
	w.checkPruned(t, block.Digest(w.a), 1, w.a1, w.a2, w.a11, w.a12, w.a111)
	w = grownWood(t)
	prune(t, w.f, block.Digest(w.b), api.OK)
	w.checkPruned(t, block.Digest(w.b), 1, w.b1)
}

func TestPruneOfNothing(t *testing.T) {
	w := grownWood(t)
	all := append(digests(w.all()...), block.First())
	was := picture(w.f, all)
	for _, h := range append(nowhere(), digests(w.apart, w.onApart, w.gone)...) {
		prune(t, w.f, h, api.ErrNone)
		if got := picture(w.f, all); got != was {
			t.Errorf("%.4x changed\n%sto\n%s", h, was, got)
		}
	}
	prune(t, w.f, block.Digest(w.b), api.OK)
	for _, h := range digests(w.a, w.a1, w.a111, w.apart) {
		prune(t, w.f, h, api.ErrNone)
	}
	prune(t, w.f, block.First(), api.ErrNone)
	w.checkPruned(t, block.Digest(w.b), 1, w.b1)
}

// Behind a pruning blocks come on the new root, on the old one, and on what
// went; what went comes again, as an orphan.
func TestPutBehindPrune(t *testing.T) {
	w := grownWood(t)
	prune(t, w.f, block.Digest(w.a1), api.OK)
	onNew := on(w.a1, 20, 0)
	put(t, w.f, api.OK, onNew, w.gone)
	checkStand(t, w.f, w.a11, w.a12, w.a111, onNew, w.gone)
	if got := w.f.Height(block.Digest(onNew)); got != 3 {
		t.Errorf("the height %d, not 3", got)
	}
	if got := w.f.Height(block.Digest(w.gone)); got != 5 {
		t.Errorf("the height %d, not 5", got)
	}
	put(t, w.f, api.ErrKnown, w.a1, w.a11, onNew)
	put(t, w.f, api.ErrOrder, on(w.a11, 5, 9))

	onOld, onGone := root(30, 0), on(w.a2, 31, 0)
	put(t, w.f, api.OK, onOld, onGone, w.b1, w.a2, w.a)
	checkStand(t, w.f, w.a11, w.a12, w.a111, onNew, w.gone)
	checkWait(t, w.f, onOld, onGone, w.b1, w.a2, w.a)
	checkMissing(t, w.f, block.First(), block.Digest(w.b))
	put(t, w.f, api.ErrKnown, w.a, w.a1, onOld)
	put(t, w.f, api.OK, w.apart, w.onApart)
	checkStand(t, w.f, w.a11, w.a12, w.a111, onNew, w.gone, w.apart, w.onApart)
	checkWait(t, w.f, onOld, onGone, w.b1, w.a2, w.a)

	prune(t, w.f, block.Digest(w.onApart), api.OK)
	checkRoot(t, w.f, block.Digest(w.onApart), 7)
	checkStand(t, w.f)
	checkWait(t, w.f)
	put(t, w.f, api.ErrKnown, w.onApart)
	put(t, w.f, api.OK, w.a1, on(w.onApart, 11, 0))
	checkStand(t, w.f, on(w.onApart, 11, 0))
	checkWait(t, w.f, w.a1)
}

// Orphans of a root that is to come, of one that was, of one that went: none
// is there when their parents come.
func TestOrphansGoForGood(t *testing.T) {
	w := grownWood(t)
	prune(t, w.f, block.Digest(w.a111), api.OK)
	put(t, w.f, api.OK, w.gone)
	checkStand(t, w.f, w.gone)
	checkWait(t, w.f)
	put(t, w.f, api.OK, w.onApart, w.apart)
	checkStand(t, w.f, w.gone, w.apart, w.onApart)
}

// A chain that is pruned as it grows may be longer than what may stand.
func TestPruneAlongAChain(t *testing.T) {
	l := chain(3 * api.MaxBlocks)
	d := digests(l...)
	f := forest.New()
	for i := range l {
		put(t, f, api.OK, l[i])
		if i >= 5 {
			prune(t, f, d[i-5], api.OK)
			checkRoot(t, f, d[i-5], i-4)
			checkPath(t, f, d[i-5], d[i], d[i-4:i+1], true)
			checkStand(t, f, l[i-4:i+1]...)
		}
	}
	prune(t, f, d[0], api.ErrNone)
	prune(t, f, d[len(d)-1], api.OK)
	checkRoot(t, f, d[len(d)-1], len(d))
}
