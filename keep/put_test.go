package keep_test

import (
	"fmt"
	"math"
	"slices"
	"testing"

	"comitia/api"
	"comitia/block"
	"comitia/keep"
)

// on is a block on a digest, in a view, with these requests.
func on(h api.Hash, view int, l ...api.Request) api.Block {
	return api.Block{View: view, Proposer: view % 4, Justify: api.Cert{View: view - 1, Block: h}, Batch: l}
}

// chain is so many blocks, each with a request of that client.
func chain(many, client int) []api.Block {
	return chainOn(block.First(), 1, many, client)
}

// chainOn is so many blocks from a digest on, in the views from one on.
func chainOn(h api.Hash, view, many, client int) []api.Block {
	var l []api.Block
	for i := range many {
		b := on(h, view+i, api.Request{Client: client, Seq: view + i, Body: "x"})
		l, h = append(l, b), block.Digest(b)
	}
	return l
}

func digests(l ...api.Block) []api.Hash {
	var d []api.Hash
	for _, b := range l {
		d = append(d, block.Digest(b))
	}
	return d
}

// firsts are the requests of blocks, of each client and Seq the first one.
func firsts(l ...api.Block) []api.Request {
	var first []api.Request
	for _, b := range l {
		for _, r := range b.Batch {
			if !slices.ContainsFunc(first, func(x api.Request) bool { return x.Client == r.Client && x.Seq == r.Seq }) {
				first = append(first, r)
			}
		}
	}
	return first
}

// joined are lists one behind the other.
func joined(l ...[]api.Block) []api.Block {
	return slices.Concat(l...)
}

// told is all that a block has, as text.
func told(b api.Block) string {
	s := fmt.Sprintf("%d by %d on %d %x", b.View, b.Proposer, b.Justify.View, b.Justify.Block)
	for _, x := range b.Justify.Sigs {
		s += fmt.Sprintf(" signed %d %q", x.From, x.Tags)
	}
	for _, r := range b.Batch {
		s += fmt.Sprintf(" asked %d %d %q", r.Client, r.Seq, r.Body)
	}
	return s
}

func sameBlock(a, b api.Block) bool {
	return told(a) == told(b)
}

func short(l []api.Hash) string {
	s := ""
	for _, h := range l {
		s += fmt.Sprintf(" %.4x", h)
	}
	return "[" + s + " ]"
}

func put(t *testing.T, k *keep.Keep, want api.Errno, l ...api.Block) {
	t.Helper()
	if e := k.Put(l); e != want {
		t.Errorf("Put of %d on %d: %d, not %d", len(l), k.Len(), e, want)
	}
}

// kept is a chain of these blocks.
func kept(t *testing.T, l ...api.Block) *keep.Keep {
	t.Helper()
	k := keep.New()
	put(t, k, api.OK, l...)
	return k
}

// checkChain asks for all that is told of a chain: it is just these blocks.
func checkChain(t *testing.T, k *keep.Keep, l ...api.Block) {
	t.Helper()
	d := digests(l...)
	if k.Len() != len(l) {
		t.Errorf("Len %d, not %d", k.Len(), len(l))
	}
	if got := k.Digests(); !slices.Equal(got, d) {
		t.Errorf("Digests %s, not %s", short(got), short(d))
	}
	if got, want := k.Last(), append([]api.Hash{block.First()}, d...)[len(l)]; got != want {
		t.Errorf("Last %.4x, not %.4x", got, want)
	}
	if got, want := k.Requests(), firsts(l...); !slices.Equal(got, want) {
		t.Errorf("Requests %v, not %v", got, want)
	}
	checkAt(t, k, l)
	checkFind(t, k, d)
}

func checkAt(t *testing.T, k *keep.Keep, l []api.Block) {
	t.Helper()
	for i, want := range l {
		if b, ok := k.At(i + 1); !ok || !sameBlock(b, want) {
			t.Errorf("At(%d): %v %s, not %s", i+1, ok, told(b), told(want))
		}
	}
	for _, i := range []int{0, -1, -2, len(l) + 1, len(l) + 2, -len(l), math.MaxInt, math.MinInt} {
		if b, ok := k.At(i); (i < 1 || i > len(l)) && (ok || !sameBlock(b, api.Block{})) {
			t.Errorf("At(%d) of %d: %v %s", i, len(l), ok, told(b))
		}
	}
}

func checkFind(t *testing.T, k *keep.Keep, d []api.Hash) {
	t.Helper()
	find(t, k, block.First(), 0)
	for i, h := range d {
		find(t, k, h, i+1)
	}
	for _, h := range []api.Hash{"", "x", block.Digest(api.Block{})} {
		find(t, k, h, -1)
	}
}

func find(t *testing.T, k *keep.Keep, h api.Hash, want int) {
	t.Helper()
	if i := k.Find(h); i != want {
		t.Errorf("Find(%x): %d, not %d", h, i, want)
	}
}

// The chapter's example.
func TestTwoBlocksOneRequest(t *testing.T) {
	r := api.Request{Client: 1, Seq: 1, Body: "x"}
	a := on(block.First(), 1, r)
	b := on(block.Digest(a), 2, r)
	k := kept(t, a, b)
	checkChain(t, k, a, b)
	if l := k.Requests(); !slices.Equal(l, []api.Request{r}) {
		t.Error(l)
	}
}

func TestNew(t *testing.T) {
	k := keep.New()
	checkChain(t, k)
	if k.Len() != 0 || k.Last() != block.First() || len(k.Digests()) != 0 || len(k.Requests()) != 0 {
		t.Errorf("%d %x %s %v", k.Len(), k.Last(), short(k.Digests()), k.Requests())
	}
}

func TestOneByOne(t *testing.T) {
	l := chain(12, 1)
	k := keep.New()
	for i, b := range l {
		put(t, k, api.OK, b)
		checkChain(t, k, l[:i+1]...)
	}
}

// A chain in pieces of all sizes is the chain at once.
func TestSeveralAtOnce(t *testing.T) {
	l := chain(7, 1)
	for cuts := range 1 << (len(l) - 1) {
		k := keep.New()
		from := 0
		for i := range l {
			if i == len(l)-1 || cuts>>i&1 == 1 {
				put(t, k, api.OK, l[from:i+1]...)
				checkChain(t, k, l[:i+1]...)
				from = i + 1
			}
		}
	}
}

func TestPutOfNone(t *testing.T) {
	l := chain(3, 1)
	for n := range 4 {
		k := keep.New()
		for _, none := range [][]api.Block{nil, {}, l[1:1]} {
			put(t, k, api.OK, none...)
		}
		checkChain(t, k)
		put(t, k, api.OK, l[:n]...)
		for _, none := range [][]api.Block{nil, {}, l[1:1]} {
			put(t, k, api.OK, none...)
			checkChain(t, k, l[:n]...)
		}
	}
}

// notFirst are texts that aren't the first block's digest.
func notFirst() []api.Hash {
	h := block.First()
	return []api.Hash{"", "x", "first", h[:31], h[1:], h + "\x00", "\x00" + h, h + h,
		string(h[0]^1) + h[1:], h[:31] + string([]byte{h[31] ^ 128}), block.Digest(api.Block{}), block.Digest(chain(1, 2)[0])}
}

func TestFirstBlock(t *testing.T) {
	b := chain(1, 1)[0]
	checkChain(t, kept(t, b), b)
	for _, h := range notFirst() {
		k := keep.New()
		put(t, k, api.ErrOrder, on(h, 1))
		put(t, k, api.ErrOrder, on(h, 1), b)
		put(t, k, api.ErrOrder, append([]api.Block{on(h, 1)}, chainOn(block.Digest(on(h, 1)), 2, 3, 1)...)...)
		checkChain(t, k)
		put(t, k, api.OK, b)
		checkChain(t, k, b)
	}
}

// A block that doesn't stand on the one ahead, wherever it is among blocks
// that do, lets none of them be put.
func TestOneDoesNotStand(t *testing.T) {
	l := chain(9, 1)
	for there := range 4 {
		k := kept(t, l[:there]...)
		rest := l[there:]
		for i := range rest {
			parents := slices.Concat(notFirst(), digests(l...), []api.Hash{block.First()})
			for _, h := range parents {
				if h == block.Parent(rest[i]) {
					continue
				}
				wrong := slices.Clone(rest)
				wrong[i].Justify.Block = h
				put(t, k, api.ErrOrder, wrong...)
				put(t, k, api.ErrOrder, wrong[:i+1]...)
				// What comes behind stands on the wrong one.
				wrong = joined(wrong[:i+1], chainOn(block.Digest(wrong[i]), 20, 2, 1))
				put(t, k, api.ErrOrder, wrong...)
			}
		}
		checkChain(t, k, l[:there]...)
		put(t, k, api.OK, rest...)
		checkChain(t, k, l...)
	}
}

// Blocks of a chain in whatever other order, with one left out, or one twice.
func TestOutOfOrder(t *testing.T) {
	l := chain(6, 1)
	for there := range 3 {
		k := kept(t, l[:there]...)
		rest := l[there:]
		for i := range rest {
			if i < len(rest)-1 {
				put(t, k, api.ErrOrder, slices.Delete(slices.Clone(rest), i, i+1)...)
			}
			put(t, k, api.ErrOrder, slices.Insert(slices.Clone(rest), i, rest[i])...)
			for j := range i {
				swapped := slices.Clone(rest)
				swapped[i], swapped[j] = swapped[j], swapped[i]
				put(t, k, api.ErrOrder, swapped...)
			}
		}
		back := slices.Clone(rest)
		slices.Reverse(back)
		put(t, k, api.ErrOrder, back...)
		put(t, k, api.ErrOrder, joined(rest, rest)...)
		checkChain(t, k, l[:there]...)
	}
}

func TestThereAlready(t *testing.T) {
	l := chain(5, 1)
	k := kept(t, l...)
	more := chainOn(k.Last(), 6, 2, 1)
	for i := range l {
		signed := l[i]
		signed.Justify.Sigs = []api.Sig{{From: 1, Tags: []string{"t"}}}
		put(t, k, api.ErrOrder, l[i])
		put(t, k, api.ErrOrder, signed)
		put(t, k, api.ErrOrder, l[i:]...)
		put(t, k, api.ErrOrder, joined(l[i:], more)...)
		put(t, k, api.ErrOrder, joined(more, l[i:])...)
		put(t, k, api.ErrOrder, more[0], l[i], more[1])
	}
	checkChain(t, k, l...)
	put(t, k, api.OK, more...)
	checkChain(t, k, joined(l, more)...)
}

// A block on one that isn't the last is another branch.
func TestNoBranches(t *testing.T) {
	l := chain(4, 1)
	k := kept(t, l...)
	for _, h := range append(digests(l[:3]...), block.First()) {
		branch := chainOn(h, 9, 3, 2)
		put(t, k, api.ErrOrder, branch...)
		put(t, k, api.ErrOrder, branch[0])
		put(t, k, api.ErrOrder, branch[1:]...)
		find(t, k, block.Digest(branch[0]), -1)
	}
	checkChain(t, k, l...)
}

// Nothing but parents is asked: neither views, nor proposers, nor signatures,
// nor how many requests there are.
func TestOnlyParentsAreAsked(t *testing.T) {
	var many []api.Request
	for i := range 9 {
		many = append(many, api.Request{Client: i - 2, Seq: i - 2, Body: fmt.Sprintf("%50d", i)})
	}
	var l []api.Block
	h := block.First()
	for i, b := range []api.Block{
		{}, {View: 7, Justify: api.Cert{View: 9}}, {View: 3, Proposer: 6}, {View: -1, Proposer: -1}, {View: 3, Proposer: 99},
		{View: api.MaxView + 1, Batch: many}, {Justify: api.Cert{View: -5, Sigs: []api.Sig{{From: 9, Tags: make([]string, 9)}, {From: -3}}}},
		{View: math.MaxInt, Justify: api.Cert{View: math.MinInt}}, {View: 1, Batch: many[:4]},
	} {
		b.Justify.Block = h
		l, h = append(l, b), block.Digest(b)
		checkChain(t, kept(t, l...), l...)
		checkChain(t, kept(t, append(l, chainOn(h, 1, 2, 1)...)...), append(l, chainOn(h, 1, 2, 1)...)...)
		k := kept(t, l[:i]...)
		put(t, k, api.OK, b)
		checkChain(t, k, l...)
	}
}

// Whose signatures a certificate has is all one to what stands on the block;
// the block is told as it came.
func TestSignaturesAreAllOne(t *testing.T) {
	a := chain(1, 1)[0]
	for _, sigs := range [][]api.Sig{nil, {{From: 1, Tags: []string{"t"}}}, {{From: 2}, {From: 3, Tags: []string{"u", "v"}}}} {
		b := a
		b.Justify.Sigs = sigs
		c := on(block.Digest(a), 2)
		k := kept(t, b, c)
		checkChain(t, k, b, c)
		find(t, k, block.Digest(a), 1)
	}
}

// A chain may be longer than a forest.
func TestLongChain(t *testing.T) {
	l := chain(3*api.MaxBlocks, 1)
	k := kept(t, l...)
	checkChain(t, k, l...)
	one := keep.New()
	for _, b := range l {
		put(t, one, api.OK, b)
	}
	checkChain(t, one, l...)
}
