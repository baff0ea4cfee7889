package node_test

import (
	"math"
	"slices"
	"strings"
	"testing"

	"comitia/api"
	"comitia/block"
	"comitia/cert"
	"comitia/mac"
	"comitia/node"
	"comitia/safe"
)

// taking are messages to node 2 of 4, each of which changes a new node or has
// it send something, and what leads up to it.
func taking() map[string]struct{ ahead, m []api.Msg } {
	a, b := first(4, 1, req(0, 1)), side(4, 5)
	return map[string]struct{ ahead, m []api.Msg }{
		"Propose": {nil, []api.Msg{proposes(2, a)}},
		"Voted":   {[]api.Msg{finds(0, 2, b), votes(0, 2, 4, b), votes(1, 2, 4, b)}, []api.Msg{votes(3, 2, 4, b)}},
		"NewView": {[]api.Msg{finds(0, 2, b)}, []api.Msg{tells(3, 2, 1, certified(4, b))}},
		"jump":    {[]api.Msg{tells(0, 2, 7, cert.First())}, []api.Msg{tells(3, 2, 7, cert.First())}},
		"Ask":     {nil, []api.Msg{asks(11, 2, req(1, 1))}},
		"Fetch":   {[]api.Msg{finds(0, 2, b)}, []api.Msg{fetches(3, 2, block.Digest(b), 0)}},
		"Found":   {nil, []api.Msg{finds(3, 2, on(4, b, 6))}},
	}
}

// each tries a change of each of those messages, which makes it wrong; as it
// was, it isn't.
func each(t *testing.T, change func(m api.Msg) (api.Msg, bool)) {
	t.Helper()
	tried := 0
	for what, y := range taking() {
		x := newTwin(t, 2, 4)
		x.note(what)
		x.handle(y.ahead...)
		m, ok := change(y.m[0])
		if !ok {
			continue
		}
		tried++
		x.nothing(func() []api.Msg { return x.handle(m) })
		before := [4]int{x.View(), x.High().View, x.Waits(), x.State().Voted}
		l := x.handle(y.m...)
		if after := [4]int{x.View(), x.High().View, x.Waits(), x.State().Voted}; len(l) == 0 && before == after {
			t.Errorf("%s: that is no trial", what)
		}
	}
	if tried == 0 {
		t.Error("that is no trial")
	}
}

// Messages to others do nothing.
func TestWrongTo(t *testing.T) {
	for _, to := range []int{math.MinInt, -2, -1, 0, 1, 3, 4, 12, 20, 21, 1<<32 + 2, math.MaxInt} {
		each(t, func(m api.Msg) (api.Msg, bool) {
			m.To = to
			return tagged(m), true
		})
		each(t, func(m api.Msg) (api.Msg, bool) {
			m.To = to
			return m, true
		})
	}
}

// Nor do those of ends that can't be; Ask and Fetch may come from more of them.
func TestWrongFrom(t *testing.T) {
	for _, from := range []int{math.MinInt, -1, 4, 6, 7, 10, 13, 20, 21, 100, 1 << 32, 1<<32 + 3, math.MaxInt} {
		each(t, func(m api.Msg) (api.Msg, bool) {
			m.From = from
			any := m.Kind == api.Ask || m.Kind == api.Fetch
			return tagged(m), !any || from < 0 || from > 20
		})
	}
}

// Nor those of kinds that can't be, or that aren't for nodes.
func TestWrongKind(t *testing.T) {
	for _, kind := range []int{math.MinInt, -1, 0, api.Answer, 8, 100, 1 << 32, 1<<32 + 1, 1<<32 + 3, 1<<32 + 7, math.MaxInt} {
		each(t, func(m api.Msg) (api.Msg, bool) {
			m.Kind = kind
			return tagged(m), true
		})
		each(t, func(m api.Msg) (api.Msg, bool) {
			m.Kind = kind
			return m, true
		})
	}
}

// Proposals and views are asked for their tags.
func TestWrongTags(t *testing.T) {
	wrong := map[string]func(m api.Msg) string{
		"none":         func(m api.Msg) string { return "" },
		"another":      func(m api.Msg) string { return strings.Repeat("x", 16) },
		"shorter":      func(m api.Msg) string { return m.Tag[:15] },
		"longer":       func(m api.Msg) string { return m.Tag + "\x00" },
		"seed":         func(m api.Msg) string { return mac.Tag("another", m.From, m.To, text(m)) },
		"from another": func(m api.Msg) string { return mac.Tag(seed, (m.From+1)%2, m.To, text(m)) },
		"to another":   func(m api.Msg) string { return mac.Tag(seed, m.From, 0, text(m)) },
		"text":         func(m api.Msg) string { return mac.Tag(seed, m.From, m.To, text(m)+"x") },
		"of nothing":   func(m api.Msg) string { return mac.Tag(seed, m.From, m.To, "") },
	}
	for what, tag := range wrong {
		t.Run(what, func(t *testing.T) {
			each(t, func(m api.Msg) (api.Msg, bool) {
				m.Tag = tag(m)
				return m, m.Kind == api.Propose || m.Kind == api.NewView
			})
		})
	}
	// A tag is of what the message says.
	each(t, func(m api.Msg) (api.Msg, bool) {
		m.View++
		return m, m.Kind == api.NewView
	})
	each(t, func(m api.Msg) (api.Msg, bool) {
		m.Block.Batch = nil
		return m, m.Kind == api.Propose
	})
}

// The others are taken without one.
func TestWithoutTags(t *testing.T) {
	for what, y := range taking() {
		m := y.m[0]
		if m.Kind == api.Propose || m.Kind == api.NewView {
			continue
		}
		for _, tag := range []string{"", "x", strings.Repeat("x", 16)} {
			a, b := newTwin(t, 2, 4), newTwin(t, 2, 4)
			a.note(what)
			a.handle(y.ahead...)
			b.handle(y.ahead...)
			want := b.handle(m)
			m.Tag = tag
			sent(t, a.handle(m), want...)
			a.is(b.View(), b.High().View, b.State(), 0, 0, b.Waits())
		}
	}
}

// wrongBlocks aren't well for node 2 of 4, though they were, but for one thing.
func wrongBlocks() map[string]api.Block {
	parent := first(4, 4, req(0, 1))
	l := map[string]api.Block{}
	change := func(what string, f func(b *api.Block)) {
		b := on(4, parent, 6, req(1, 1), req(2, 1))
		f(&b)
		l[what] = b
	}
	change("proposer", func(b *api.Block) { b.Proposer = 1 })
	change("proposer that can't be", func(b *api.Block) { b.Proposer = 6 })
	change("two of one number", func(b *api.Block) { b.Batch[1] = req(1, 1) })
	change("client", func(b *api.Block) { b.Batch[0].Client = 4 })
	change("seq", func(b *api.Block) { b.Batch[0].Seq = 0 })
	change("body", func(b *api.Block) { b.Batch[0].Body = strings.Repeat("x", 41) })
	change("too many", func(b *api.Block) { b.Batch = append(b.Batch, req(3, 1), req(3, 2)) })
	change("a view below its certificate's", func(b *api.Block) { b.View, b.Proposer = 2, 2 })
	change("a view too high", func(b *api.Block) { b.View, b.Proposer = api.MaxView+1, (api.MaxView+1)%4 })
	change("no view", func(b *api.Block) { b.View, b.Proposer, b.Justify = 0, 0, cert.First() })
	change("too few votes", func(b *api.Block) { b.Justify.Sigs = b.Justify.Sigs[1:] })
	change("a vote that doesn't hold", func(b *api.Block) { b.Justify.Sigs[1].Tags[2] = strings.Repeat("x", 16) })
	change("votes in disorder", func(b *api.Block) { slices.Reverse(b.Justify.Sigs) })
	change("certificate's view", func(b *api.Block) { b.Justify.View = 5 })
	change("certificate's block", func(b *api.Block) { b.Justify.Block = block.First() })
	change("no certificate", func(b *api.Block) { b.Justify = api.Cert{} })
	change("first certificate of another", func(b *api.Block) { b.Justify = api.Cert{Block: block.Digest(parent)} })
	l["nothing"] = api.Block{}
	return l
}

// Blocks that aren't well are neither proposed nor found.
func TestWrongBlocks(t *testing.T) {
	for what, b := range wrongBlocks() {
		x := newTwin(t, 2, 4)
		x.note(what)
		x.handle(finds(0, 2, first(4, 4, req(0, 1))))
		x.nothing(func() []api.Msg {
			m := tagged(api.Msg{Kind: api.Propose, From: 2, To: 2, Block: b})
			l := append(x.handle(m), x.handle(finds(0, 2, b))...)
			for from := range 4 {
				m.From = from
				l = append(l, x.handle(tagged(m))...)
			}
			return l
		})
		if got := x.stand(b); len(got) != 0 {
			t.Error(what)
		}
	}
}

// A proposal comes from its proposer; what is found comes from whomever.
func TestProposeFromAnother(t *testing.T) {
	b := first(4, 1, req(0, 1))
	for _, from := range []int{0, 2, 3} {
		x := newTwin(t, 2, 4)
		m := proposes(2, b)
		m.From = from
		x.nothing(func() []api.Msg { return x.handle(m, tagged(m)) })
		x.handle(finds(from, 2, b))
		if got := x.stand(b); len(got) != 1 {
			t.Error(from)
		}
	}
}

// Certificates that don't hold are told for nothing; the view with them, too.
func TestWrongCertificates(t *testing.T) {
	b := side(4, 5)
	change := map[string]func(c *api.Cert){
		"too few":      func(c *api.Cert) { c.Sigs = c.Sigs[:2] },
		"none":         func(c *api.Cert) { c.Sigs = nil },
		"one twice":    func(c *api.Cert) { c.Sigs[1] = c.Sigs[0] },
		"disorder":     func(c *api.Cert) { slices.Reverse(c.Sigs) },
		"view":         func(c *api.Cert) { c.View++ },
		"no view":      func(c *api.Cert) { c.View = 0 },
		"block":        func(c *api.Cert) { c.Block = block.First() },
		"no block":     func(c *api.Cert) { c.Block = "" },
		"tag":          func(c *api.Cert) { c.Sigs[2].Tags[2] = strings.Repeat("x", 16) },
		"no tags":      func(c *api.Cert) { c.Sigs[0].Tags = nil },
		"five nodes":   func(c *api.Cert) { *c = certOf(5, 5, block.Digest(b), 0, 1, 2) },
		"zero":         func(c *api.Cert) { *c = api.Cert{} },
		"nearly first": func(c *api.Cert) { *c = cert.First(); c.View = 1 },
		"first signed": func(c *api.Cert) { *c = certOf(4, 0, block.First()) },
	}
	for what, f := range change {
		x := newTwin(t, 2, 4)
		x.note(what)
		x.handle(finds(0, 2, b), tells(0, 2, 7, cert.First()))
		c := certified(4, b)
		f(&c)
		x.nothing(func() []api.Msg { return x.handle(tells(3, 2, 7, c), tells(1, 2, 9, c)) })
		// Nothing of the views was put to the gathering.
		x.handle(tells(3, 2, 2, cert.First()))
		if x.View() != 2 {
			t.Error(what, x.View())
		}
	}
}

// Signatures that aren't of the node that they name, or of another text, are no
// votes.
func TestWrongVotes(t *testing.T) {
	n := 4
	b := side(n, 5)
	h := block.Digest(b)
	wrong := map[string]func(m *api.Msg){
		"another node's":     func(m *api.Msg) { m.Sig.Tags = signed(0, n, 5, h).Tags },
		"named another's":    func(m *api.Msg) { m.Sig.From = 2 },
		"no node's":          func(m *api.Msg) { m.Sig.From = 4 },
		"a node below":       func(m *api.Msg) { m.Sig.From = -1 },
		"view signed":        func(m *api.Msg) { m.Sig = signed(3, n, 6, h) },
		"view":               func(m *api.Msg) { m.View = 6 },
		"no view":            func(m *api.Msg) { m.View, m.Sig = 0, signed(3, n, 0, h) },
		"a view too high":    func(m *api.Msg) { m.View, m.Sig = api.MaxView+1, signed(3, n, api.MaxView+1, h) },
		"block":              func(m *api.Msg) { m.Hash = block.First() },
		"no block":           func(m *api.Msg) { m.Hash, m.Sig = "", signed(3, n, 5, "") },
		"a block too long":   func(m *api.Msg) { m.Hash, m.Sig = h+"x", signed(3, n, 5, h+"x") },
		"none":               func(m *api.Msg) { m.Sig = api.Sig{} },
		"no tags":            func(m *api.Msg) { m.Sig.Tags = nil },
		"too few tags":       func(m *api.Msg) { m.Sig.Tags = m.Sig.Tags[:3] },
		"too many tags":      func(m *api.Msg) { m.Sig = signed(3, 5, 5, h) },
		"tag":                func(m *api.Msg) { m.Sig.Tags[2] = strings.Repeat("x", 16) },
		"a tag of nothing":   func(m *api.Msg) { m.Sig.Tags[0] = "" },
		"has voted before":   func(m *api.Msg) { m.Sig = signed(1, n, 5, h) },
		"of another's block": func(m *api.Msg) { m.Hash, m.Sig = block.Digest(side(n, 4)), signed(3, n, 5, block.Digest(side(n, 4))) },
	}
	for what, f := range wrong {
		x := newTwin(t, 2, n)
		x.note(what)
		x.handle(finds(0, 2, b), votes(0, 2, n, b), votes(1, 2, n, b))
		m := votes(3, 2, n, b)
		f(&m)
		x.nothing(func() []api.Msg { return x.handle(tagged(m)) })
	}
}

// A vote whose tags are well for the node alone counts, whatever the others are:
// the node can't judge them.
func TestVoteThatHoldsForIt(t *testing.T) {
	n := 4
	b := side(n, 5)
	x := newTwin(t, 2, n)
	x.handle(finds(0, 2, b), votes(0, 2, n, b), votes(1, 2, n, b))
	m := votes(3, 2, n, b)
	m.Sig.Tags[0], m.Sig.Tags[1] = strings.Repeat("x", 16), strings.Repeat("y", 16)
	x.handle(m)
	x.is(6, 5, x.State(), 0, 0, 0)
}

// Nothing panics, whatever a message has.
func TestMonsters(t *testing.T) {
	big := []int{math.MinInt, -1, 0, 1, 3, math.MaxInt}
	for n := 1; n <= api.MaxNodes; n += 3 {
		x := newTwin(t, n-1, n)
		for kind := -1; kind <= 8; kind++ {
			for _, k := range big {
				sig := api.Sig{From: k, Tags: []string{"", strings.Repeat("t", 5000)}}
				c := api.Cert{View: k, Block: strings.Repeat("h", 5000), Sigs: []api.Sig{sig, sig}}
				r := api.Request{Client: k, Seq: k, Body: strings.Repeat("b", 5000)}
				m := api.Msg{
					Kind: kind, From: n - 1, To: n - 1, View: k, Hash: c.Block, Sig: sig, Cert: c, Request: r, Index: k, Tag: c.Block,
					Block: api.Block{View: k, Proposer: k, Justify: c, Batch: []api.Request{r, r, r, r}},
				}
				x.nothing(func() []api.Msg { return x.handle(m, tagged(m), api.Msg{Kind: kind, From: n - 1, To: n - 1, View: k}) })
			}
		}
	}
}

// A node that Open hasn't made is of no nodes, and does nothing that anybody
// could see but let requests wait.
func TestUnopened(t *testing.T) {
	x := &node.Node{}
	for kind := range 9 {
		x.Handle(api.Msg{Kind: kind})
		x.Handle(tagged(full(kind)))
	}
	x.Ask(req(0, 1))
	for range 100 {
		x.Tick()
	}
	if l := x.Send(); len(l) > 0 || x.Dead() || len(x.Committed()) > 0 || len(x.Entries()) > 0 || x.View() < 1 || x.High().View != 0 || x.State().Voted != 0 {
		t.Error(names(l))
	}
}

// Two nodes don't hang on one another, though they are one node's on two logs.
func TestTwoNodes(t *testing.T) {
	a, _ := node.Open(seed, 1, 4, safe.New())
	b := newTwin(t, 1, 4)
	for range 9 {
		a.Tick()
		a.Ask(req(0, 1))
		a.Handle(proposes(1, first(4, 1)))
	}
	b.look()
	if l := b.Send(); len(l) > 0 || b.View() != 1 || b.Waits() != 0 {
		t.Error(names(l))
	}
}
