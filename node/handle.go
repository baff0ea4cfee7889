package node

import (
	"comitia/api"
	"comitia/block"
	"comitia/cert"
	"comitia/mac"
	"comitia/rule"
)

// lastEnd is the greatest number that one who sends or gets a message has.
const lastEnd = 20

// Handle takes a message. What isn't as it has to be does nothing.
func (x *Node) Handle(m api.Msg) {
	if x.dead || m.To != x.id || !x.listens(m) {
		return
	}
	if x.handled(m) {
		x.propose()
	}
}

// listens tells whether a message's sender may send one of its kind.
func (x *Node) listens(m api.Msg) bool {
	last := x.n - 1
	if m.Kind == api.Ask || m.Kind == api.Fetch {
		last = lastEnd
	}
	return m.From >= 0 && m.From <= last
}

// handled does what a message asks for, and tells whether it was as it has to
// be.
func (x *Node) handled(m api.Msg) bool {
	switch m.Kind {
	case api.Propose:
		return x.proposal(m)
	case api.Voted:
		return x.vote(m)
	case api.NewView:
		return x.newView(m)
	case api.Ask:
		return x.answered(m.Request) || x.pool.Add(m.Request) == api.OK
	case api.Fetch:
		return x.fetched(m)
	case api.Found:
		return x.found(m)
	}
	return false
}

// proposal takes a block of its proposer, and votes for it, if it may.
func (x *Node) proposal(m api.Msg) bool {
	if !x.well(m.Block) || m.Block.Proposer != m.From || !x.tagged(m) {
		return false
	}
	x.take(m.Block, m.From)
	if !x.dead {
		x.voteFor(m.Block)
	}
	return true
}

// voteFor votes for a block that was taken, if it may. The vote is remembered
// ahead of being sent: so there is none twice, wherever the power goes.
func (x *Node) voteFor(b api.Block) {
	h := block.Digest(b)
	if _, stands := x.forest.Get(h); !stands || b.View != x.timer.View() {
		return
	}
	after, ok := rule.Vote(x.state, b)
	if !ok || !x.save(after, nil) {
		return
	}
	x.state = after
	// Open has asked already whether this node may sign.
	s, _ := mac.Sign(x.seed, x.id, x.n, cert.Text(b.View, h))
	x.toAll(api.Msg{Kind: api.Voted, View: b.View, Hash: h, Sig: s})
}

// vote counts a vote, and learns what it certifies.
func (x *Node) vote(m api.Msg) bool {
	if c, ok := x.tally.Add(m.View, m.Hash, m.Sig); ok {
		x.learn(c, m.From)
	}
	return true
}

// newView takes a node's view and its highest certificate, and goes to the view
// where not only bad nodes are.
func (x *Node) newView(m api.Msg) bool {
	if !x.holds(m.Cert) || !x.tagged(m) {
		return false
	}
	x.gather.Put(m.From, m.View)
	x.learn(m.Cert, m.From)
	if x.rose(x.timer.Jump(x.gather.Catch())) {
		x.tellView()
	}
	return true
}

// fetched sends a block that is asked for, and those that are committed behind
// what the one who asks has.
func (x *Node) fetched(m api.Msg) bool {
	if b, ok := x.block(m.Hash); ok {
		x.send(api.Msg{Kind: api.Found, To: m.From, Block: b})
	}
	for _, b := range x.next(m.View) {
		x.send(api.Msg{Kind: api.Found, To: m.From, Block: b})
	}
	return true
}

// found takes a block that was asked for, whoever proposed it.
func (x *Node) found(m api.Msg) bool {
	if !x.well(m.Block) {
		return false
	}
	x.take(m.Block, m.From)
	return true
}

// answered answers a request, if it was executed.
func (x *Node) answered(r api.Request) bool {
	i, ok := x.ledger.Index(r.Client, r.Seq)
	if ok {
		x.answer(i)
	}
	return ok
}

func (x *Node) well(b api.Block) bool {
	return block.Well(x.seed, x.id, x.n, b) == api.OK
}

func (x *Node) holds(c api.Cert) bool {
	return cert.Holds(x.seed, x.id, x.n, c)
}

// tagged tells whether a message's tag is its sender's.
func (x *Node) tagged(m api.Msg) bool {
	return m.Tag == mac.Tag(x.seed, m.From, x.id, Text(m))
}
