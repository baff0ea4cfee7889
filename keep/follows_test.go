package keep_test

import (
	"math/rand/v2"
	"slices"
	"testing"

	"comitia/api"
	"comitia/block"
	"comitia/keep"
)

// A witness remembers all that a chain has told.
type witness struct {
	blocks   []api.Block
	digests  []api.Hash
	requests []api.Request
}

// look asks for all, and whether it begins with what was told before.
func (w *witness) look(t *testing.T, k *keep.Keep) {
	t.Helper()
	d, r := k.Digests(), k.Requests()
	if !keep.Begins(w.digests, d) || len(d) != k.Len() {
		t.Fatalf("Digests %s behind %s", short(d), short(w.digests))
	}
	if len(r) < len(w.requests) || !slices.Equal(r[:len(w.requests)], w.requests) {
		t.Fatalf("Requests %v behind %v", r, w.requests)
	}
	for i := range d {
		b, ok := k.At(i + 1)
		if !ok || block.Digest(b) != d[i] || k.Find(d[i]) != i+1 {
			t.Fatalf("height %d: %v, found at %d", i+1, ok, k.Find(d[i]))
		}
		if i == len(w.blocks) {
			w.blocks = append(w.blocks, b)
		}
		if !sameBlock(b, w.blocks[i]) {
			t.Fatalf("height %d: %s, not %s", i+1, told(b), told(w.blocks[i]))
		}
	}
	w.digests, w.requests = d, r
}

// someOn are some blocks on a digest, at random, one of them perhaps
// elsewhere.
func someOn(r *rand.Rand, h api.Hash, elsewhere []api.Hash) []api.Block {
	var l []api.Block
	wrong := r.IntN(8)
	for i := range r.IntN(5) {
		if i == wrong {
			h = elsewhere[r.IntN(len(elsewhere))]
		}
		b := on(h, r.IntN(9), request(r.IntN(4), r.IntN(9), string(rune('a'+r.IntN(26)))))
		b.Justify.Sigs = []api.Sig{{From: r.IntN(7)}}
		l, h = append(l, b), block.Digest(b)
	}
	return l
}

// What is put stays, whatever is put behind it, or refused.
func TestWhatIsPutStays(t *testing.T) {
	r := rand.New(rand.NewPCG(11, 2))
	results := map[api.Errno]int{}
	for range 150 {
		k := keep.New()
		w := &witness{}
		for range 15 {
			elsewhere := append(k.Digests(), block.First(), "x", block.Digest(api.Block{}))
			from := k.Last()
			if r.IntN(6) == 0 {
				from = elsewhere[r.IntN(len(elsewhere))]
			}
			results[k.Put(someOn(r, from, elsewhere))]++
			w.look(t, k)
		}
	}
	if len(results) != 2 || results[api.OK] < 500 || results[api.ErrOrder] < 500 {
		t.Error("that is no trial", results)
	}
}

// down are the blocks on which a digest's block stands, and itself, found one
// by one from above.
func down(t *testing.T, k *keep.Keep, h api.Hash) []api.Block {
	t.Helper()
	var l []api.Block
	for h != block.First() {
		b, ok := k.At(k.Find(h))
		if !ok || len(l) >= k.Len() {
			t.Fatalf("%d of %d blocks, then none", len(l), k.Len())
		}
		l, h = append(l, b), block.Parent(b)
	}
	slices.Reverse(l)
	return l
}

// A chain is told by its last digest's block, and those on which it stands.
func TestToldByItsLast(t *testing.T) {
	r := rand.New(rand.NewPCG(11, 3))
	for range 100 {
		k := keep.New()
		for range 8 {
			k.Put(someOn(r, k.Last(), []api.Hash{"x"}))
			k.Put(someOn(r, "x", []api.Hash{k.Last()}))
		}
		l := down(t, k, k.Last())
		checkChain(t, k, l...)
		for i, h := range k.Digests() {
			if !slices.EqualFunc(down(t, k, h), l[:i+1], sameBlock) {
				t.Errorf("height %d: other blocks below", i+1)
			}
		}
		again := kept(t, l...)
		checkChain(t, again, l...)
	}
}

// Two chains of the same last digest are the same, however they were put; of
// others no two have one last digest.
func TestTheSameLast(t *testing.T) {
	r := rand.New(rand.NewPCG(11, 4))
	l := chain(6, 1)
	branches := [][]api.Block{l, joined(l[:3], chainOn(block.Digest(l[2]), 4, 3, 2)), joined(l[:3], chainOn(block.Digest(l[2]), 5, 2, 1)), chain(6, 2)}
	told := map[api.Hash][]api.Hash{}
	lengths := map[api.Hash]int{}
	for range 300 {
		branch := branches[r.IntN(len(branches))]
		k := keep.New()
		end := r.IntN(len(branch) + 1)
		for k.Len() < end {
			next := k.Len() + 1 + r.IntN(end-k.Len())
			put(t, k, api.OK, branch[k.Len():next]...)
			put(t, k, api.ErrOrder, branch...)
			put(t, k, api.ErrOrder, branches[r.IntN(len(branches))]...)
		}
		h := k.Last()
		if was, ok := told[h]; ok && !slices.Equal(k.Digests(), was) {
			t.Errorf("%s and %s have one last digest", short(k.Digests()), short(was))
		}
		told[h], lengths[h] = k.Digests(), k.Len()
		checkChain(t, k, down(t, k, h)...)
	}
	for h, d := range told {
		if lengths[h] != len(d) || len(d) > 0 && d[len(d)-1] != h {
			t.Errorf("%s ends in %.4x", short(d), h)
		}
	}
	// None, six, three and two on the third, six apart.
	if len(told) != 1+6+3+2+6 {
		t.Errorf("%d chains", len(told))
	}
}
