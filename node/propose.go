package node

import (
	"comitia/api"
	"comitia/block"
	"comitia/count"
)

// propose sends a block to all, if it is this node's turn, and there is
// something to do. Blocks without requests are proposed only for those on the
// way to be committed.
func (x *Node) propose() {
	if x.dead || !x.mayPropose() {
		return
	}
	there := requests(x.way(x.high.Block))
	fresh := x.pool.Take(api.MaxBatch, there)
	if len(fresh)+len(there) == 0 {
		return
	}
	x.proposed = x.timer.View()
	x.toAll(api.Msg{Kind: api.Propose, Block: block.Make(x.proposed, x.n, x.high, fresh)})
}

// mayPropose tells whether this node leads the timer's view, in which it hasn't
// proposed, and may build on the highest certificate.
func (x *Node) mayPropose() bool {
	view := x.timer.View()
	return !x.timer.Halted() &&
		count.Leader(view, x.n) == x.id &&
		x.proposed < view &&
		x.forest.Has(x.high.Block) &&
		(x.high.View == view-1 || x.gather.Ready(view))
}

// requests are those of all these blocks.
func requests(blocks []api.Block) []api.Request {
	var l []api.Request
	for _, b := range blocks {
		l = append(l, b.Batch...)
	}
	return l
}
