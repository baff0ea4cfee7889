package keep_test

import (
	"fmt"
	"slices"
	"testing"

	"comitia/api"
	"comitia/block"
	"comitia/keep"
)

// roomy is a block of which each list has something in it, and spare room.
func roomy(h api.Hash, view int) api.Block {
	b := on(h, view)
	tags := append(make([]string, 0, 6), "t", "u", "v")
	b.Justify.Sigs = append(make([]api.Sig, 0, 6), api.Sig{From: 1, Tags: tags}, api.Sig{From: 2}, api.Sig{From: 3, Tags: slices.Clone(tags)})
	b.Batch = append(make([]api.Request, 0, 6), request(1, view, "a"), request(2, view, "b"), request(1, 99, "c"))
	return b
}

// roomyChain is so many of these, one on the other.
func roomyChain(many int) []api.Block {
	l := make([]api.Block, 0, many+3)
	h := block.First()
	for i := range many {
		l = append(l, roomy(h, i+1))
		h = block.Digest(l[i])
	}
	return l
}

// whole is all that blocks have as text, spare room and all.
func whole(l []api.Block) string {
	s := ""
	for _, b := range l[:cap(l)] {
		b.Batch = b.Batch[:cap(b.Batch)]
		b.Justify.Sigs = slices.Clone(b.Justify.Sigs[:cap(b.Justify.Sigs)])
		for i, x := range b.Justify.Sigs {
			b.Justify.Sigs[i].Tags = x.Tags[:cap(x.Tags)]
		}
		s += told(b) + "\n"
	}
	return s
}

// spoil writes over all that blocks have, spare room and all.
func spoil(l []api.Block) {
	for i := range l {
		for _, s := range l[i].Justify.Sigs {
			fill(s.Tags, "spoilt")
		}
		fill(l[i].Justify.Sigs, api.Sig{From: 99, Tags: []string{"spoilt"}})
		fill(l[i].Batch, request(99, 99, "spoilt"))
	}
	fill(l, on("spoilt", 99))
}

// fill writes over a list, and over its spare room.
func fill[T any](l []T, x T) {
	for i := range cap(l) {
		l[:cap(l)][i] = x
	}
}

// Blocks that the caller changes behind Put stand as they came.
func TestWhatIsHandedInIsNotKept(t *testing.T) {
	want := roomyChain(4)
	for first := range 5 {
		k := keep.New()
		l := roomyChain(4)
		begin := slices.Clone(l[:first])
		put(t, k, api.OK, begin...)
		spoil(begin)
		checkChain(t, k, want[:first]...)
		rest := roomyChain(4)[first:]
		put(t, k, api.OK, rest...)
		spoil(rest)
		checkChain(t, k, want...)
	}
}

// One field of one block, changed behind Put, changes nothing.
func TestEachChangeOfWhatIsHandedIn(t *testing.T) {
	want := roomyChain(3)
	for what, change := range map[string]func([]api.Block){
		"a block":             func(l []api.Block) { l[1] = api.Block{} },
		"a view":              func(l []api.Block) { l[1].View = 50 },
		"a parent":            func(l []api.Block) { l[2].Justify.Block = "x" },
		"a signature":         func(l []api.Block) { l[1].Justify.Sigs[2] = api.Sig{} },
		"a signature's From":  func(l []api.Block) { l[0].Justify.Sigs[0].From = 6 },
		"a tag":               func(l []api.Block) { l[1].Justify.Sigs[0].Tags[1] = "x" },
		"the last one's tag":  func(l []api.Block) { l[2].Justify.Sigs[2].Tags[2] = "x" },
		"a request":           func(l []api.Block) { l[0].Batch[1] = api.Request{} },
		"a request's body":    func(l []api.Block) { l[2].Batch[0].Body = "x" },
		"a request more":      func(l []api.Block) { l[1].Batch = append(l[1].Batch, request(3, 3, "x")) },
		"two blocks' places":  func(l []api.Block) { l[0], l[1] = l[1], l[0] },
		"the list's own room": func(l []api.Block) { l = append(l, api.Block{}); l[3].View = 9 },
	} {
		l := roomyChain(3)
		k := kept(t, l...)
		change(l)
		checkChain(t, k, want...)
		if t.Failed() {
			t.Fatal(what)
		}
	}
}

// What is handed in is left as it is, whether it is put or refused.
func TestWhatIsHandedInIsLeft(t *testing.T) {
	l := roomyChain(4)
	refused := joined(roomyChain(2), roomyChain(2))
	was, wasRefused := whole(l), whole(refused)
	k := keep.New()
	put(t, k, api.ErrOrder, refused...)
	put(t, k, api.OK, l[:2]...)
	put(t, k, api.ErrOrder, refused...)
	put(t, k, api.OK, l[2:]...)
	put(t, k, api.ErrOrder, l...)
	put(t, k, api.OK, chainOn(k.Last(), 5, 3, 1)...)
	checkChain(t, k, joined(l, chainOn(block.Digest(l[3]), 5, 3, 1))...)
	for i := range 9 {
		b, _ := k.At(i)
		spoil([]api.Block{b})
	}
	fill(k.Requests(), request(99, 99, "spoilt"))
	if now := whole(l); now != was {
		t.Errorf("%s, not %s", now, was)
	}
	if now := whole(refused); now != wasRefused {
		t.Errorf("%s, not %s", now, wasRefused)
	}
}

// What is answered may be written over.
func TestAnswersAreNew(t *testing.T) {
	want := roomyChain(5)
	k := keep.New()
	for n := range 6 {
		for i := 1; i <= n; i++ {
			one, _ := k.At(i)
			other, _ := k.At(i)
			spoil([]api.Block{one})
			if !sameBlock(other, want[i-1]) {
				t.Errorf("At(%d): two answers share memory", i)
			}
		}
		fill(k.Digests(), "spoilt")
		fill(k.Requests(), request(99, 99, "spoilt"))
		checkChain(t, k, want[:n]...)
		if n < 5 {
			put(t, k, api.OK, want[n])
		}
	}
}

// Two lists of one answer share no room: one that grows doesn't grow into the
// other.
func TestListsOfOneAnswer(t *testing.T) {
	k := kept(t, roomyChain(2)...)
	b, _ := k.At(2)
	for i := range b.Justify.Sigs {
		fill(b.Justify.Sigs[i].Tags, fmt.Sprint("tag of ", i))
	}
	for i, s := range b.Justify.Sigs {
		for _, tag := range s.Tags {
			if tag != fmt.Sprint("tag of ", i) {
				t.Errorf("signature %d: %q", i, s.Tags)
			}
		}
	}
	checkChain(t, k, roomyChain(2)...)
}

// Lists that were answered stay as they are when more is put, and one that the
// caller appends to goes on for itself.
func TestAnswersStay(t *testing.T) {
	l := roomyChain(9)
	k := keep.New()
	var digestLists [][]api.Hash
	var requestLists [][]api.Request
	for i, b := range l {
		digestLists = append(digestLists, append(k.Digests(), "mine"))
		requestLists = append(requestLists, append(k.Requests(), request(88, i, "mine")))
		put(t, k, api.OK, b)
	}
	checkChain(t, k, l...)
	for i := range l {
		if got, want := digestLists[i], append(digests(l[:i]...), "mine"); !slices.Equal(got, want) {
			t.Errorf("%s, not %s", short(got), short(want))
		}
		if got, want := requestLists[i], append(firsts(l[:i]...), request(88, i, "mine")); !slices.Equal(got, want) {
			t.Errorf("%v, not %v", got, want)
		}
	}
}

// A block that one chain answers may be put to another one, and changed then.
func TestBlocksFromAnotherChain(t *testing.T) {
	l := roomyChain(4)
	a, b := kept(t, l...), keep.New()
	for i := range l {
		x, _ := a.At(i + 1)
		one := []api.Block{x}
		put(t, b, api.OK, one...)
		spoil(one)
	}
	checkChain(t, a, l...)
	checkChain(t, b, l...)
}

// Two chains don't hang on one another.
func TestChainsAreApart(t *testing.T) {
	l, apart := chain(4, 1), chain(3, 2)
	a, b := keep.New(), keep.New()
	if a == b {
		t.Fatal("one chain")
	}
	put(t, a, api.OK, l[:2]...)
	checkChain(t, b)
	put(t, b, api.ErrOrder, l[2:]...)
	put(t, b, api.OK, apart...)
	checkChain(t, a, l[:2]...)
	checkChain(t, b, apart...)
	put(t, a, api.OK, l[2:]...)
	put(t, a, api.ErrOrder, apart...)
	checkChain(t, a, l...)
	checkChain(t, b, apart...)
	checkChain(t, keep.New())
}

// Two chains of the same blocks, of one list, don't either.
func TestChainsOfOneList(t *testing.T) {
	l := roomyChain(3)
	a, b := kept(t, l...), kept(t, l...)
	put(t, a, api.OK, roomy(a.Last(), 4))
	checkChain(t, b, l...)
	put(t, b, api.OK, roomy(b.Last(), 5), roomy(block.Digest(roomy(b.Last(), 5)), 6))
	checkChain(t, a, joined(l, []api.Block{roomy(block.Digest(l[2]), 4)})...)
	x, _ := a.At(1)
	spoil([]api.Block{x})
	fill(a.Digests(), "spoilt")
	fill(a.Requests(), request(99, 99, "spoilt"))
	spoil(l)
	want := roomyChain(3)
	fifth := roomy(block.Digest(want[2]), 5)
	checkChain(t, b, joined(want, []api.Block{fifth, roomy(block.Digest(fifth), 6)})...)
}
