package keep_test

import (
	"math"
	"testing"

	"comitia/api"
	"comitia/block"
	"comitia/keep"
)

// Every height around the chain, of chains of none to five blocks.
func TestAt(t *testing.T) {
	l := chain(5, 1)
	for n := range 6 {
		k := kept(t, l[:n]...)
		for i := -8; i <= 8; i++ {
			b, ok := k.At(i)
			want := api.Block{}
			if i >= 1 && i <= n {
				want = l[i-1]
			}
			if ok != (i >= 1 && i <= n) || !sameBlock(b, want) {
				t.Errorf("At(%d) of %d: %v %s", i, n, ok, told(b))
			}
		}
		for _, i := range []int{math.MaxInt, math.MaxInt - 1, math.MinInt, math.MinInt + 1, 1 << 31, 1<<32 + 1, -1 << 32, 1 - 1<<32} {
			if b, ok := k.At(i); ok || !sameBlock(b, api.Block{}) {
				t.Errorf("At(%d) of %d: %v %s", i, n, ok, told(b))
			}
		}
	}
}

func TestFindWhatIsNotThere(t *testing.T) {
	l := chain(4, 1)
	ahead := chainOn(block.Digest(l[3]), 5, 2, 1)
	for n := range 5 {
		k := kept(t, l[:n]...)
		for _, h := range notFirst() {
			find(t, k, h, -1)
		}
		for _, b := range joined(l[n:], ahead, chain(3, 2)) {
			find(t, k, block.Digest(b), -1)
		}
		for _, h := range digests(l[:n]...) {
			for _, x := range []api.Hash{h[:31], h[1:], h + "\x00", "\x00" + h, h + h, h[:31] + string([]byte{h[31] ^ 1}), h[1:] + h[:1]} {
				find(t, k, x, -1)
			}
		}
		find(t, k, block.First(), 0)
	}
}

// What was refused isn't found, not even what stood well ahead of the wrong
// one.
func TestFindWhatWasRefused(t *testing.T) {
	l := chain(5, 1)
	k := kept(t, l[0])
	put(t, k, api.ErrOrder, l[1], l[2], l[4])
	for _, b := range l[1:] {
		find(t, k, block.Digest(b), -1)
	}
	put(t, k, api.OK, l[1])
	for i, want := range []int{1, 2, -1, -1, -1} {
		find(t, k, block.Digest(l[i]), want)
	}
}

// The digest is told by Digest alone: a parent's text is no block's.
func TestFindByDigest(t *testing.T) {
	l := chain(3, 1)
	k := kept(t, l...)
	for i, b := range l {
		find(t, k, block.Parent(b), i)
		find(t, k, block.Digest(b), i+1)
		other := b
		other.Proposer++
		find(t, k, block.Digest(other), -1)
		other = b
		other.Batch = nil
		find(t, k, block.Digest(other), -1)
	}
}

// What is asked changes nothing, however often, and in whatever order.
func TestAskedAgain(t *testing.T) {
	l := chain(6, 1)
	k := keep.New()
	for i := range 7 {
		for range 3 {
			checkChain(t, k, l[:i]...)
		}
		if i < 6 {
			put(t, k, api.OK, l[i])
		}
	}
}
