package node

import (
	"slices"

	"comitia/api"
	"comitia/block"
	"comitia/own"
	"comitia/rule"
)

// page is how many committed blocks are sent at a time.
const page = 10

// learn takes a certificate from a node.
func (x *Node) learn(c api.Cert, from int) {
	if !x.holds(c) {
		return
	}
	if !x.forest.Has(c.Block) {
		x.postpone(c, from)
		return
	}
	if c.View > x.high.View {
		x.high = own.Cert(c)
	}
	x.state = rule.Learn(&x.forest, x.state, c)
	x.enter(c.View + 1)
	if h, ok := rule.Commit(&x.forest, c); ok {
		x.commit(h)
	}
}

// postpone keeps a certificate till its block is there, if it is of use then,
// and asks for the block.
func (x *Node) postpone(c api.Cert, from int) {
	if c.View <= x.high.View {
		return
	}
	if c.View >= x.waiting.View {
		x.waiting = own.Cert(c)
	}
	if from != x.id {
		x.fetch(c.Block, from)
	}
}

// commit commits a block, and all from the root up to it.
func (x *Node) commit(h api.Hash) {
	way := x.way(h)
	x.chain.Put(way)
	for _, b := range way {
		x.execute(b.Batch)
	}
	x.forest.Prune(h)
}

// execute lets requests be entries, and answers them.
func (x *Node) execute(batch []api.Request) {
	indexes := x.ledger.Apply(batch)
	x.pool.Done(batch)
	for _, i := range indexes {
		x.answer(i)
	}
}

// take takes a block that is well, from a node, with all that waited for it.
func (x *Node) take(b api.Block, from int) {
	if x.past(b) {
		return
	}
	for _, s := range x.put(b) {
		if !x.save(x.state, []api.Block{s}) {
			return
		}
		x.learn(s.Justify, from)
	}
	if x.forest.Has(x.waiting.Block) {
		c := x.waiting
		x.waiting = api.Cert{}
		x.learn(c, from)
	}
	for _, h := range x.forest.Missing() {
		x.fetch(h, from)
	}
}

// past tells whether a block is committed, or comes too late for that.
func (x *Node) past(b api.Block) bool {
	// Without a block in the chain the last view is 0.
	last, _ := x.chain.At(x.chain.Len())
	return x.chain.Find(block.Digest(b)) >= 0 || b.View <= last.View
}

// put puts a block into the forest. What stands newly by that is told in the
// order in which the forest let it stand: again and again the first orphan
// whose parent stood by then.
func (x *Node) put(b api.Block) []api.Block {
	orphans := x.forest.Orphans()
	if x.forest.Put(b) != api.OK {
		return nil
	}
	l := x.standing([]api.Hash{block.Digest(b)})
	rest := x.standing(orphans)
	for {
		i := slices.IndexFunc(rest, func(o api.Block) bool { return hasParent(l, o) })
		if i < 0 {
			return l
		}
		l = append(l, rest[i])
		rest = slices.Delete(rest, i, i+1)
	}
}

// standing are those of the blocks that stand.
func (x *Node) standing(digests []api.Hash) []api.Block {
	var l []api.Block
	for _, h := range digests {
		if b, ok := x.forest.Get(h); ok {
			l = append(l, b)
		}
	}
	return l
}

// way is the blocks from behind the root up to one of the forest's.
func (x *Node) way(h api.Hash) []api.Block {
	digests, _ := x.forest.Path(x.chain.Last(), h)
	return x.standing(digests)
}

// block is a block that stands, or is committed.
func (x *Node) block(h api.Hash) (api.Block, bool) {
	if b, ok := x.forest.Get(h); ok {
		return b, true
	}
	return x.chain.At(x.chain.Find(h))
}

// next are the blocks of the chain that one of so many blocks lacks first.
func (x *Node) next(long int) []api.Block {
	var l []api.Block
	for i := max(long, 0); i < x.chain.Len() && len(l) < page; i++ {
		b, _ := x.chain.At(i + 1)
		l = append(l, b)
	}
	return l
}

// hasParent tells whether a block's parent is in the list.
func hasParent(l []api.Block, b api.Block) bool {
	return slices.ContainsFunc(l, func(p api.Block) bool { return block.Digest(p) == block.Parent(b) })
}
