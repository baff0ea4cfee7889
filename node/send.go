package node

import (
	"comitia/api"
	"comitia/block"
	"comitia/mac"
	"comitia/own"
	"comitia/wire"
)

// firstClient is the end that the client 0 is.
const firstClient = 10

// Text is what a message's tag is of.
func Text(m api.Msg) string {
	switch m.Kind {
	case api.Propose:
		return "P" + block.Digest(m.Block)
	case api.NewView:
		return "N" + wire.Number(m.View) + wire.Number(m.Cert.View) + m.Cert.Block
	case api.Answer:
		return "A" + wire.Request(m.Request) + wire.Number(m.Index) + m.Hash
	}
	return ""
}

// send lets a message be sent, as this node's. Each one has lists of its own,
// for whoever gets it.
func (x *Node) send(m api.Msg) {
	m.From = x.id
	m.Tag = mac.Tag(x.seed, m.From, m.To, Text(m))
	m.Block, m.Cert, m.Sig = own.Block(m.Block), own.Cert(m.Cert), own.Sig(m.Sig)
	x.sends = append(x.sends, m)
}

// toAll lets a message be sent to all nodes, itself too.
func (x *Node) toAll(m api.Msg) {
	for to := range x.n {
		m.To = to
		x.send(m)
	}
}

// toOthers lets a message be sent to all nodes but itself.
func (x *Node) toOthers(m api.Msg) {
	for to := range x.n {
		if to != x.id {
			m.To = to
			x.send(m)
		}
	}
}

// tellView tells all the timer's view, unless it has halted: that is no view.
func (x *Node) tellView() {
	if !x.timer.Halted() {
		x.toAll(api.Msg{Kind: api.NewView, View: x.timer.View(), Cert: x.high})
	}
}

// fetch asks a node for a block, and for what is committed behind this node's
// chain.
func (x *Node) fetch(h api.Hash, from int) {
	x.send(api.Msg{Kind: api.Fetch, To: from, View: x.chain.Len(), Hash: h})
}

// answer tells a client the entry at i.
func (x *Node) answer(i int) {
	r, _ := x.ledger.At(i)
	h, _ := x.ledger.Digest(i + 1)
	x.send(api.Msg{Kind: api.Answer, To: firstClient + r.Client, Request: r, Index: i, Hash: h})
}
