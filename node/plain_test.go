package node_test

import (
	"slices"

	"comitia/api"
	"comitia/blake"
	"comitia/block"
	"comitia/cert"
	"comitia/mac"
	"comitia/rule"
	"comitia/wire"
)

// A plain log: two texts, and how many calls go well ahead of the one at which
// the power goes, -1 without a fuse.
type plainLog struct {
	safe, waits string
	fuse        int
	lost        bool
}

func (l *plainLog) goes() bool {
	l.lost = l.lost || l.fuse == 0
	if l.fuse > 0 {
		l.fuse--
	}
	return l.lost
}

func (l *plainLog) write(records ...string) bool {
	for _, r := range records {
		if l.goes() {
			return false
		}
		l.waits += wire.Text(r)
	}
	if l.goes() {
		return false
	}
	l.safe, l.waits = l.safe+l.waits, ""
	return true
}

func (l *plainLog) crash(keep int) {
	*l = plainLog{safe: l.safe + l.waits[:keep%(len(l.waits)+1)], fuse: -1}
}

// whole is where the whole records among the bytes end, and these records.
func whole(b string) (int, []string) {
	var l []string
	at := 0
	for at+4 <= len(b) {
		n := int(b[at])<<24 + int(b[at+1])<<16 + int(b[at+2])<<8 + int(b[at+3])
		if n == 0 || n > 4000 || at+4+n > len(b) {
			break
		}
		l = append(l, b[at+4:at+4+n])
		at += 4 + n
	}
	return at, l
}

// cut leaves whole records, and tells them.
func (l *plainLog) cut() []string {
	end, records := whole(l.safe + l.waits)
	all := l.safe + l.waits
	l.safe, l.waits = all[:min(end, len(l.safe))], all[min(end, len(l.safe)):end]
	return records
}

// A plainVote is one that was counted.
type plainVote struct {
	view  int
	block api.Hash
	sig   api.Sig
}

// A plain node does what the chapters say, word by word, with plain lists.
type plain struct {
	id, n           int
	log             *plainLog
	state, saved    rule.State
	chain           []api.Block
	stand, orphans  []api.Block
	entries, waits  []api.Request
	votes           []plainVote
	below           int
	view, fails     int
	left            int
	told            []int
	high            api.Cert
	later           api.Cert
	proposed        int
	out             []api.Msg
	dead            bool
	counts          map[string]int
	blocksOfRecords []api.Block
}

func openPlain(id, n int, l *plainLog, counts map[string]int) *plain {
	p := &plain{id: id, n: n, log: l, view: 1, left: 4, told: make([]int, n), high: cert.First(), counts: counts}
	for _, r := range l.cut() {
		if len(r) == 9 && r[0] == 'S' {
			s, e := rule.Read(r[1:])
			if e != api.OK {
				break
			}
			p.saved.Voted, p.saved.Locked = max(p.saved.Voted, s.Voted), max(p.saved.Locked, s.Locked)
			continue
		}
		if r[0] != 'B' {
			break
		}
		b, e := wire.ReadBlock(r[1:])
		if e != api.OK {
			break
		}
		p.blocksOfRecords = append(p.blocksOfRecords, b)
	}
	p.state = p.saved
	for _, b := range p.blocksOfRecords {
		p.put(b)
		if p.stands(block.Digest(b)) != nil {
			p.learn(b.Justify, id)
		}
	}
	p.enter(max(p.state.Voted, p.high.View+1), 0)
	p.out = nil
	return p
}

func (p *plain) count(what string) {
	p.counts[what]++
}

// The forest.

func (p *plain) root() api.Hash {
	if len(p.chain) == 0 {
		return block.First()
	}
	return block.Digest(p.chain[len(p.chain)-1])
}

func (p *plain) stands(h api.Hash) *api.Block {
	for i := range p.stand {
		if block.Digest(p.stand[i]) == h {
			return &p.stand[i]
		}
	}
	return nil
}

func (p *plain) has(h api.Hash) bool {
	return h == p.root() || p.stands(h) != nil
}

func (p *plain) fits(b api.Block) bool {
	if on := p.stands(b.Justify.Block); on != nil {
		return b.View > on.View && b.View > b.Justify.View && b.Justify.View == on.View && len(p.stand) < 400
	}
	if p.has(b.Justify.Block) {
		return len(p.stand) < 400
	}
	return len(p.orphans) < 8
}

// put tells what stands newly, in order.
func (p *plain) put(b api.Block) []api.Block {
	h := block.Digest(b)
	known := p.has(h)
	for _, o := range p.orphans {
		known = known || block.Digest(o) == h
	}
	if known || !p.fits(b) {
		p.count("not put")
		return nil
	}
	if !p.has(b.Justify.Block) {
		p.orphans = append(p.orphans, b)
		p.count("orphan")
		return nil
	}
	fresh := []api.Block{b}
	p.stand = append(p.stand, b)
	for i := 0; i < len(p.orphans); i++ {
		o := p.orphans[i]
		if !p.has(o.Justify.Block) {
			continue
		}
		p.orphans = slices.Delete(p.orphans, i, i+1)
		if p.fits(o) {
			fresh = append(fresh, o)
			p.stand = append(p.stand, o)
		} else {
			p.count("orphan dropped")
		}
		i = -1
	}
	if len(fresh) > 2 {
		p.count("many stand")
	}
	return fresh
}

func (p *plain) missing() []api.Hash {
	var l []api.Hash
	for _, o := range p.orphans {
		h := o.Justify.Block
		isOrphan := slices.ContainsFunc(p.orphans, func(x api.Block) bool { return block.Digest(x) == h })
		if !isOrphan && !slices.Contains(l, h) {
			l = append(l, h)
		}
	}
	return l
}

// wayTo is the blocks behind the root up to one that stands, or is the root.
func (p *plain) wayTo(h api.Hash) []api.Block {
	var l []api.Block
	for h != p.root() {
		b := *p.stands(h)
		l = append([]api.Block{b}, l...)
		h = b.Justify.Block
	}
	return l
}

// The timer.

func (p *plain) enter(view, fails int) bool {
	if p.view == 1000001 || view <= p.view {
		return false
	}
	p.view, p.fails, p.left = min(view, 1000001), fails, min(4<<min(fails, 2), 16)
	p.forget(p.view - 2)
	return true
}

func (p *plain) forget(view int) {
	p.below = max(p.below, view)
	p.votes = slices.DeleteFunc(p.votes, func(v plainVote) bool { return v.view <= p.below })
}

func (p *plain) tick() {
	if p.dead || p.view == 1000001 {
		return
	}
	if p.left--; p.left == 0 {
		p.enter(p.view+1, p.fails+1)
		p.count("failed")
		p.tell()
	}
}

// What is sent.

func (p *plain) send(m api.Msg) {
	m.From = p.id
	m.Tag = mac.Tag(seed, m.From, m.To, text(m))
	p.out = append(p.out, m)
}

func (p *plain) toAll(m api.Msg) {
	for m.To = range p.n {
		p.send(m)
	}
}

func (p *plain) tell() {
	if p.view <= 1000000 {
		p.toAll(api.Msg{Kind: 3, View: p.view, Cert: p.high})
	} else {
		p.count("halt")
	}
}

func (p *plain) answer(i int) {
	h := blake.Sum("ledger")
	for _, r := range p.entries[:i+1] {
		h = blake.Sum("E" + h + wire.Request(r))
	}
	r := p.entries[i]
	p.send(api.Msg{Kind: 5, To: 10 + r.Client, Request: r, Index: i, Hash: h})
}

// text is a message's, put together by hand.
func text(m api.Msg) string {
	switch m.Kind {
	case 1:
		return "P" + block.Digest(m.Block)
	case 3:
		return "N" + wire.Number(m.View) + wire.Number(m.Cert.View) + m.Cert.Block
	case 5:
		return "A" + wire.Request(m.Request) + wire.Number(m.Index) + m.Hash
	}
	return ""
}

// Certificates and blocks.

func (p *plain) learn(c api.Cert, from int) {
	if !cert.Holds(seed, p.id, p.n, c) {
		p.count("doesn't hold")
		return
	}
	if !p.has(c.Block) {
		if c.View <= p.high.View {
			p.count("of no use")
			return
		}
		if p.later.View <= c.View {
			p.later = c
			p.count("later")
		} else {
			p.count("not even later")
		}
		if from != p.id {
			p.send(api.Msg{Kind: 6, To: from, View: len(p.chain), Hash: c.Block})
		}
		return
	}
	if c.View > p.high.View {
		p.high = c
	}
	b := p.stands(c.Block)
	if b != nil && b.View == c.View {
		p.state.Locked = max(p.state.Locked, b.Justify.View)
	}
	p.enter(c.View+1, 0)
	if b == nil || b.View != c.View {
		return
	}
	parent := p.stands(b.Justify.Block)
	if parent == nil || parent.View+1 != b.View {
		return
	}
	first := p.stands(parent.Justify.Block)
	if first != nil && first.View+1 == parent.View {
		p.commit(parent.Justify.Block)
	}
}

func (p *plain) commit(h api.Hash) {
	p.count("commit")
	way := p.wayTo(h)
	if len(way) > 1 {
		p.count("commit of many")
	}
	for _, b := range way {
		for _, r := range b.Batch {
			p.execute(r)
		}
	}
	kept := p.stand[:0:0]
	for _, b := range p.stand {
		if d := block.Digest(b); d != h && p.above(d, h) {
			kept = append(kept, b)
		}
	}
	p.chain, p.stand, p.orphans = append(p.chain, way...), kept, nil
}

func (p *plain) execute(r api.Request) {
	i := slices.IndexFunc(p.entries, func(x api.Request) bool { return same(x, r) })
	if i < 0 {
		i = len(p.entries)
		p.entries = append(p.entries, r)
	} else {
		p.count("executed already")
	}
	p.waits = slices.DeleteFunc(p.waits, func(x api.Request) bool { return same(x, r) })
	p.answer(i)
}

// same tells whether two requests are one client's, of one Seq.
func same(a, b api.Request) bool {
	return a.Client == b.Client && a.Seq == b.Seq
}

// above tells whether a block that stands is, or stands on, the one of h.
func (p *plain) above(d, h api.Hash) bool {
	for d != h {
		b := p.stands(d)
		if b == nil {
			return false
		}
		d = b.Justify.Block
	}
	return true
}

// save is Save's of layer 10.
func (p *plain) save(s rule.State, l ...api.Block) bool {
	var records []string
	for _, b := range l {
		records = append(records, "B"+wire.Block(b))
	}
	if s != p.saved {
		records = append(records, "S"+wire.Number(s.Voted)+wire.Number(s.Locked))
	}
	if len(records) > 0 && !p.log.write(records...) {
		p.dead, p.out = true, nil
		p.count("dead")
		return false
	}
	p.saved.Voted, p.saved.Locked = max(p.saved.Voted, s.Voted), max(p.saved.Locked, s.Locked)
	return true
}

func (p *plain) take(b api.Block, from int) {
	h := block.Digest(b)
	for _, c := range p.chain {
		if block.Digest(c) == h {
			p.count("in the chain")
			return
		}
	}
	if len(p.chain) > 0 && b.View <= p.chain[len(p.chain)-1].View {
		p.count("past")
		return
	}
	for _, s := range p.put(b) {
		if !p.save(p.state, s) {
			return
		}
		p.learn(s.Justify, from)
	}
	if p.later.View > 0 && p.has(p.later.Block) {
		c := p.later
		p.later = api.Cert{}
		p.count("learned later")
		p.learn(c, from)
	}
	for _, h := range p.missing() {
		p.count("missing")
		p.send(api.Msg{Kind: 6, To: from, View: len(p.chain), Hash: h})
	}
}

// Handling.

func (p *plain) propose() {
	if p.dead || p.view > 1000000 || p.view%p.n != p.id || p.proposed >= p.view || !p.has(p.high.Block) {
		return
	}
	ready := 0
	for _, v := range p.told {
		if v == p.view {
			ready++
		}
	}
	if p.high.View+1 != p.view {
		if ready < quorum(p.n) {
			return
		}
		p.count("ready")
	}
	var there, fresh []api.Request
	for _, b := range p.wayTo(p.high.Block) {
		there = append(there, b.Batch...)
	}
	for _, r := range p.waits {
		if len(fresh) < 3 && !slices.ContainsFunc(there, func(x api.Request) bool { return same(x, r) }) {
			fresh = append(fresh, r)
		}
	}
	if len(there) == 0 && len(fresh) == 0 {
		return
	}
	if len(fresh) == 0 {
		p.count("empty proposal")
	}
	p.count("proposal")
	p.proposed = p.view
	p.toAll(api.Msg{Kind: 1, Block: api.Block{View: p.view, Proposer: p.id, Justify: p.high, Batch: fresh}})
}

func quorum(n int) int {
	return n - (n-1)/3
}

func (p *plain) ask(r api.Request, on bool) api.Errno {
	i := slices.IndexFunc(p.entries, func(x api.Request) bool { return same(x, r) })
	if i >= 0 {
		p.count("answered again")
		p.answer(i)
		return api.OK
	}
	if r.Client < 0 || r.Client > 3 || r.Seq < 1 || r.Seq > 1<<31-1 || len(r.Body) > 40 {
		return api.ErrArg
	}
	if slices.ContainsFunc(p.waits, func(x api.Request) bool { return same(x, r) }) {
		return api.ErrKnown
	}
	if len(p.waits) == 12 {
		p.count("full")
		return api.ErrBusy
	}
	p.waits = append(p.waits, r)
	for to := range p.n {
		if on && to != p.id {
			p.send(api.Msg{Kind: 4, To: to, Request: r})
		}
	}
	return api.OK
}

func (p *plain) Ask(r api.Request) api.Errno {
	if p.dead {
		return api.ErrLost
	}
	e := p.ask(r, true)
	if e == api.OK {
		p.propose()
	}
	return e
}

func (p *plain) handle(m api.Msg) {
	if p.dead || m.To != p.id || m.From < 0 || m.From > 20 || m.From >= p.n && m.Kind != 4 && m.Kind != 6 {
		return
	}
	right := m.Tag == mac.Tag(seed, m.From, p.id, text(m))
	well := block.Well(seed, p.id, p.n, m.Block) == api.OK
	switch {
	case m.Kind == 1 && well && right && m.Block.Proposer == m.From:
		p.take(m.Block, m.From)
		p.vote(m.Block)
	case m.Kind == 2:
		p.counted(m)
	case m.Kind == 3 && right && cert.Holds(seed, p.id, p.n, m.Cert):
		p.newView(m)
	case m.Kind == 4 && p.ask(m.Request, false) == api.OK:
	case m.Kind == 6:
		p.fetch(m)
	case m.Kind == 7 && well:
		p.take(m.Block, m.From)
	default:
		return
	}
	p.propose()
}

func (p *plain) vote(b api.Block) {
	h := block.Digest(b)
	if p.dead || p.stands(h) == nil || b.View != p.view || b.View <= p.state.Voted || b.Justify.View < p.state.Locked {
		return
	}
	after := rule.State{Voted: b.View, Locked: p.state.Locked}
	if !p.save(after) {
		p.count("no vote")
		return
	}
	p.state = after
	p.count("vote")
	s, _ := mac.Sign(seed, p.id, p.n, cert.Text(b.View, h))
	p.toAll(api.Msg{Kind: 2, View: b.View, Hash: h, Sig: s})
}

func (p *plain) counted(m api.Msg) {
	if m.View < 1 || m.View > 1000000 || m.View <= p.below || len(m.Hash) != 32 || len(p.votes) >= 4*p.n ||
		!mac.Holds(seed, p.id, p.n, cert.Text(m.View, m.Hash), m.Sig) {
		p.count("no vote counted")
		return
	}
	var l []api.Sig
	for _, v := range p.votes {
		if v.view == m.View && v.sig.From == m.Sig.From {
			return
		}
		if v.view == m.View && v.block == m.Hash {
			l = append(l, v.sig)
		}
	}
	p.votes = append(p.votes, plainVote{m.View, m.Hash, m.Sig})
	if l = append(l, m.Sig); len(l) == quorum(p.n) {
		slices.SortFunc(l, func(a, b api.Sig) int { return a.From - b.From })
		p.count("certified")
		p.learn(api.Cert{View: m.View, Block: m.Hash, Sigs: l}, m.From)
	}
}

func (p *plain) newView(m api.Msg) {
	if m.View <= 1000000 {
		p.told[m.From] = max(p.told[m.From], m.View)
	}
	p.learn(m.Cert, m.From)
	told := slices.Sorted(slices.Values(p.told))
	if p.enter(told[p.n-1-(p.n-1)/3], p.fails) {
		p.count("jump")
		p.tell()
	}
}

func (p *plain) fetch(m api.Msg) {
	for _, l := range [][]api.Block{p.stand, p.chain} {
		for _, b := range l {
			if block.Digest(b) == m.Hash {
				p.send(api.Msg{Kind: 7, To: m.From, Block: b})
			}
		}
	}
	first := max(m.View, 0)
	for i, b := range p.chain {
		if i >= first && i-first < 10 {
			p.send(api.Msg{Kind: 7, To: m.From, Block: b})
		}
	}
}
