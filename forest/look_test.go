package forest_test

import (
	"slices"
	"testing"

	"comitia/api"
	"comitia/blake"
	"comitia/block"
	"comitia/forest"
)

// nowhere are digests that are no block's here.
func nowhere() []api.Hash {
	first := block.First()
	return []api.Hash{"", "x", first[:31], first + "x", first + first, blake.Sum("other"), string(make([]byte, 32))}
}

func checkPath(t *testing.T, f *forest.Forest, from, to api.Hash, want []api.Hash, wantOK bool) {
	t.Helper()
	got, ok := f.Path(from, to)
	if ok != wantOK || !slices.Equal(got, want) {
		t.Errorf("from %.4x to %.4x: %s %v, not %s %v", from, to, short(got), ok, short(want), wantOK)
	}
	if f.Extends(to, from) != wantOK {
		t.Errorf("whether %.4x extends %.4x: not %v", to, from, wantOK)
	}
}

// checkNowhere asks that a digest isn't there, beside some that are.
func checkNowhere(t *testing.T, f *forest.Forest, h api.Hash, there ...api.Hash) {
	t.Helper()
	if b, ok := f.Get(h); ok || !isZero(b) {
		t.Errorf("%.4x: got", h)
	}
	if f.Has(h) || f.Height(h) != -1 {
		t.Errorf("%.4x: there, at the height %d", h, f.Height(h))
	}
	checkPath(t, f, h, h, nil, false)
	for _, x := range there {
		checkPath(t, f, h, x, nil, false)
		checkPath(t, f, x, h, nil, false)
	}
	if e := f.Prune(h); e != api.ErrNone {
		t.Errorf("%.4x: pruned, %d", h, e)
	}
}

func checkRoot(t *testing.T, f *forest.Forest, h api.Hash, height int) {
	t.Helper()
	if b, ok := f.Get(h); ok || !isZero(b) {
		t.Error("the root was got")
	}
	if !f.Has(h) || f.Height(h) != height {
		t.Errorf("the root: %v, at the height %d, not %d", f.Has(h), f.Height(h), height)
	}
	checkPath(t, f, h, h, nil, true)
}

func TestNoBlock(t *testing.T) {
	// One that New hasn't made has the first block as its root, too.
	for _, f := range []*forest.Forest{forest.New(), {}} {
		checkRoot(t, f, block.First(), 0)
		checkStand(t, f)
		checkWait(t, f)
		checkMissing(t, f)
		for _, h := range nowhere() {
			checkNowhere(t, f, h, block.First())
		}
		if e := f.Prune(block.First()); e != api.OK {
			t.Error(e)
		}
		checkRoot(t, f, block.First(), 0)
		put(t, f, api.OK, chain(3)...)
		checkStand(t, f, chain(3)...)
	}
}

// Two branches, one of which parts again, and two orphans.
func TestLook(t *testing.T) {
	a, b := root(1, 0), root(2, 0)
	a1, a2 := on(a, 2, 0), on(a, 3, 0)
	a11 := on(a1, 4, 0)
	gone := on(a11, 5, 0)
	apart := on(gone, 6, 0)
	onApart := on(apart, 7, 0)
	f := grown(t, apart, onApart, a, b, a1, a2, a11)
	checkStand(t, f, a, b, a1, a2, a11)
	checkRoot(t, f, block.First(), 0)
	first := block.First()
	d := append([]api.Hash{first}, digests(a, b, a1, a2, a11)...)
	A, B, A1, A2, A11 := d[1], d[2], d[3], d[4], d[5]
	for i, height := range []int{0, 1, 1, 2, 2, 3} {
		if !f.Has(d[i]) || f.Height(d[i]) != height {
			t.Error(i, f.Has(d[i]), f.Height(d[i]))
		}
	}
	ways := map[[2]api.Hash][]api.Hash{
		{first, first}: {}, {first, A}: {A}, {first, B}: {B}, {first, A1}: {A, A1}, {first, A2}: {A, A2}, {first, A11}: {A, A1, A11},
		{A, A}: {}, {A, A1}: {A1}, {A, A2}: {A2}, {A, A11}: {A1, A11},
		{B, B}: {}, {A1, A1}: {}, {A1, A11}: {A11}, {A2, A2}: {}, {A11, A11}: {},
	}
	for _, from := range d {
		for _, to := range d {
			want, ok := ways[[2]api.Hash{from, to}]
			checkPath(t, f, from, to, want, ok)
		}
	}
	for _, h := range append(nowhere(), digests(gone, apart, onApart)...) {
		checkNowhere(t, f, h, append(d, digests(gone, apart, onApart)...)...)
	}
	checkWait(t, f, apart, onApart)
}

// A chain of as many as may stand: each height, and ways from either end.
func TestLookAlongAChain(t *testing.T) {
	l := chain(api.MaxBlocks)
	d := digests(l...)
	f := grown(t, l...)
	for i, h := range d {
		if f.Height(h) != i+1 {
			t.Fatal(i, f.Height(h))
		}
		checkPath(t, f, block.First(), h, d[:i+1], true)
		checkPath(t, f, h, d[399], d[i+1:], true)
		checkPath(t, f, h, block.First(), nil, false)
		if i > 0 {
			checkPath(t, f, h, d[i-1], nil, false)
			checkPath(t, f, d[i-1], h, d[i:i+1], true)
		}
	}
}

// Blocks that keep their signatures and requests are got as they are.
func TestGet(t *testing.T) {
	a := root(1, 0)
	b := on(a, 2, 0)
	b.Proposer = 2
	b.Justify.Sigs = []api.Sig{{From: 0, Tags: []string{"t", "u"}}, {From: 3}, {From: 2, Tags: []string{"v"}}}
	b.Batch = []api.Request{{Client: 3, Seq: 9, Body: "body"}, {}, {Client: -1, Seq: -1, Body: "\x00"}}
	for _, f := range []*forest.Forest{grown(t, a, b), grown(t, b, a)} {
		got, ok := f.Get(block.Digest(b))
		if !ok || got.View != 2 || got.Proposer != 2 || got.Justify.View != 1 || got.Justify.Block != block.Digest(a) ||
			!slices.Equal(got.Batch, b.Batch) || !slices.EqualFunc(got.Justify.Sigs, b.Justify.Sigs, sameSig) {
			t.Error(ok, got)
		}
	}
}

func sameSig(a, b api.Sig) bool {
	return a.From == b.From && slices.Equal(a.Tags, b.Tags)
}

// Parents that are wanted, each once, in the order of the orphans that want
// them, and no orphan among them.
func TestMissing(t *testing.T) {
	a, b, c := root(1, 0), root(1, 1), root(1, 2)
	onC, onA, onB := on(c, 2, 0), on(a, 2, 0), on(b, 2, 0)
	l := []api.Block{on(onA, 3, 0), onC, on(c, 2, 1), onB, on(onC, 3, 0), on(c, 2, 2), on(b, 2, 1)}
	A, B, C := block.Digest(a), block.Digest(b), block.Digest(c)
	f := forest.New()
	for i, want := range [][]api.Hash{
		{block.Digest(onA)},
		{block.Digest(onA), C},
		{block.Digest(onA), C},
		{block.Digest(onA), C, B},
		{block.Digest(onA), C, B},
		{block.Digest(onA), C, B},
		{block.Digest(onA), C, B},
	} {
		put(t, f, api.OK, l[i])
		checkMissing(t, f, want...)
	}
	put(t, f, api.OK, onA)
	checkMissing(t, f, C, B, A)
	put(t, f, api.OK, c)
	checkMissing(t, f, B, A)
	checkWait(t, f, l[0], l[3], l[6], onA)
	put(t, f, api.OK, a)
	checkMissing(t, f, B)
	put(t, f, api.OK, b)
	checkMissing(t, f)
}
