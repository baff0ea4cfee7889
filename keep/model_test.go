package keep_test

import (
	"math/rand/v2"
	"slices"
	"testing"

	"comitia/api"
	"comitia/block"
	"comitia/keep"
)

// A plain chain does what the chapter says, word by word: a list of blocks.
type plain []api.Block

func (p *plain) put(l []api.Block) api.Errno {
	all := joined(*p, l)
	ahead := block.First()
	for _, b := range all {
		if b.Justify.Block != ahead {
			return api.ErrOrder
		}
		ahead = block.Digest(b)
	}
	*p = all
	return api.OK
}

// height is where a block stands; -1 if it doesn't.
func (p *plain) height(b api.Block) int {
	for i, x := range *p {
		if sameBlock(x, b) {
			return i + 1
		}
	}
	return -1
}

// tree are blocks that stand on one another in some ways: two branches, one of
// which goes on with other signatures, and a block that stands nowhere.
func tree() []api.Block {
	l := chain(3, 1)
	other := chainOn(block.Digest(l[0]), 9, 1, 2)[0]
	signed := l[1]
	signed.Justify.Sigs = []api.Sig{{From: 3, Tags: []string{"t"}}}
	return append(l, other, signed, on("x", 1))
}

// pick are the blocks of these places.
func pick(l []api.Block, places []int) []api.Block {
	var some []api.Block
	for _, i := range places {
		some = append(some, l[i])
	}
	return some
}

// Whatever two Puts of at most three and two blocks of a tree.
func TestWhateverTwoPuts(t *testing.T) {
	l := tree()
	counts := map[api.Errno]int{}
	for _, first := range lists(3, 0, 1, 2, 3, 4, 5) {
		for _, second := range lists(2, 0, 1, 2, 3, 4, 5) {
			k, p := keep.New(), &plain{}
			for _, places := range [][]int{first, second} {
				want := p.put(pick(l, places))
				put(t, k, want, pick(l, places)...)
				counts[want]++
			}
			checkChain(t, k, *p...)
			if t.Failed() {
				t.Fatal(first, second)
			}
		}
	}
	if counts[api.OK] < 1000 {
		t.Error("that is no trial", counts)
	}
}

// forks is a tree at random: each block stands on the first one, on one that
// is there, or nowhere.
func forks(r *rand.Rand, many int) []api.Block {
	var l []api.Block
	for i := range many {
		h := block.First()
		if i > 0 && r.IntN(8) > 0 {
			h = block.Digest(l[max(0, i-1-r.IntN(3))])
		}
		b := on(h, r.IntN(20), request(r.IntN(3), 1+r.IntN(4), string(rune('a'+i))))
		for range r.IntN(3) {
			b.Batch = append(b.Batch, request(r.IntN(3), 1+r.IntN(4), string(rune('A'+i))))
		}
		l = append(l, b)
	}
	return l
}

// way is the way up to a block of the tree.
func way(l []api.Block, to int) []api.Block {
	var up []api.Block
	for i := to; i >= 0; i-- {
		if len(up) == 0 || block.Digest(l[i]) == block.Parent(up[0]) {
			up = slices.Insert(up, 0, l[i])
		}
	}
	return up
}

// someBlocks are some of a tree: a part of a way, at times with a block too
// many or too few.
func someBlocks(r *rand.Rand, l []api.Block, there int) []api.Block {
	up := way(l, r.IntN(len(l)))
	from := min(there, len(up))
	if r.IntN(5) == 0 {
		from = r.IntN(len(up) + 1)
	}
	some := slices.Clone(up[from : from+r.IntN(len(up)-from+1)])
	switch i := r.IntN(len(some) + 1); r.IntN(6) {
	case 0:
		some = slices.Insert(some, i, l[r.IntN(len(l))])
	case 1:
		some = slices.Delete(some, i, min(i+1, len(some)))
	}
	return some
}

// Whatever Puts, at random, of whatever tree.
func TestWhateverPuts(t *testing.T) {
	r := rand.New(rand.NewPCG(11, 5))
	counts := map[api.Errno]int{}
	for range 300 {
		l := forks(r, 14)
		k, p := keep.New(), &plain{}
		for range 12 {
			some := someBlocks(r, l, len(*p))
			want := p.put(some)
			put(t, k, want, some...)
			checkChain(t, k, *p...)
			for i, h := range digests(l...) {
				find(t, k, h, p.height(l[i]))
			}
			if len(some) > 0 {
				counts[want]++
			}
		}
		if t.Failed() {
			t.Fatal(short(digests(*p...)))
		}
	}
	if counts[api.OK] < 300 || counts[api.ErrOrder] < 300 {
		t.Error("that is no trial", counts)
	}
}
