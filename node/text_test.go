package node_test

import (
	"math"
	"strings"
	"testing"

	"comitia/api"
	"comitia/block"
	"comitia/mac"
	"comitia/node"
)

// full is a message that has something of everything.
func full(kind int) api.Msg {
	b := on(4, first(4, 1, req(0, 1)), 2, req(1, 1))
	return api.Msg{
		Kind: kind, From: 3, To: 1, View: 0x010203, Hash: block.Digest(b), Block: b,
		Cert:    api.Cert{View: 0x040506, Block: strings.Repeat("c", 32), Sigs: b.Justify.Sigs},
		Sig:     signed(2, 4, 2, block.Digest(b)),
		Request: api.Request{Client: 2, Seq: 0x070809, Body: "body"},
		Index:   0x0a0b0c, Tag: "0123456789abcdef",
	}
}

func TestText(t *testing.T) {
	m := full(0)
	want := map[int]string{
		api.Propose: "P" + block.Digest(m.Block),
		api.NewView: "N\x00\x01\x02\x03\x00\x04\x05\x06" + strings.Repeat("c", 32),
		api.Answer:  "A\x00\x00\x00\x02\x00\x07\x08\x09\x00\x00\x00\x04body\x00\x0a\x0b\x0c" + m.Hash,
	}
	for kind := -2; kind <= 10; kind++ {
		if got := node.Text(full(kind)); got != want[kind] {
			t.Errorf("%d: %x, not %x", kind, got, want[kind])
		}
	}
	for _, kind := range []int{math.MinInt, math.MaxInt, 1 << 32, 1<<32 + api.Propose, 1<<32 + api.NewView, 1<<32 + api.Answer} {
		if got := node.Text(full(kind)); got != "" {
			t.Errorf("%d: %x", kind, got)
		}
	}
}

// A text is of what it names, and of nothing else; not of the certificates'
// signatures either.
func TestTextOf(t *testing.T) {
	change := map[string]func(m *api.Msg){
		"From":    func(m *api.Msg) { m.From = 0 },
		"To":      func(m *api.Msg) { m.To = 0 },
		"Tag":     func(m *api.Msg) { m.Tag = "" },
		"Sig":     func(m *api.Msg) { m.Sig = api.Sig{} },
		"View":    func(m *api.Msg) { m.View++ },
		"Hash":    func(m *api.Msg) { m.Hash = strings.Repeat("h", 32) },
		"Block":   func(m *api.Msg) { m.Block.View++ },
		"Batch":   func(m *api.Msg) { m.Block.Batch = nil },
		"Justify": func(m *api.Msg) { m.Block.Justify.Sigs = nil },
		"Cert":    func(m *api.Msg) { m.Cert.View++ },
		"Digest":  func(m *api.Msg) { m.Cert.Block = strings.Repeat("d", 32) },
		"Sigs":    func(m *api.Msg) { m.Cert.Sigs = nil },
		"Request": func(m *api.Msg) { m.Request.Seq++ },
		"Client":  func(m *api.Msg) { m.Request.Client++ },
		"Body":    func(m *api.Msg) { m.Request.Body = "b" },
		"Index":   func(m *api.Msg) { m.Index++ },
	}
	of := map[int]string{
		api.Propose: "Block Batch",
		api.NewView: "View Cert Digest",
		api.Answer:  "Request Client Body Index Hash",
	}
	for kind := api.Propose; kind <= api.Found; kind++ {
		for what, f := range change {
			m := full(kind)
			f(&m)
			changed := node.Text(m) != node.Text(full(kind))
			if named := strings.Contains(" "+of[kind]+" ", " "+what+" "); changed != named {
				t.Errorf("%d, %s: %t", kind, what, changed)
			}
		}
	}
}

// Whatever a message has, it has a text.
func TestTextOfNothing(t *testing.T) {
	for kind := api.Propose; kind <= api.Found; kind++ {
		m := api.Msg{Kind: kind}
		if got := node.Text(m); got != text(m) {
			t.Errorf("%d: %x", kind, got)
		}
		m.View, m.Index, m.Hash = -1, math.MaxInt, strings.Repeat("x", 100)
		m.Request = api.Request{Client: -1, Seq: math.MinInt, Body: strings.Repeat("x", 100)}
		m.Cert = api.Cert{View: -1, Block: "x"}
		if got := node.Text(m); got != text(m) {
			t.Errorf("%d: %x", kind, got)
		}
	}
}

// What is sent, of each kind, has the tag of its text, which the one who sends
// and the one who gets it have alone.
func TestTagsOfWhatIsSent(t *testing.T) {
	w := newRun(t, 4, nil)
	kinds := map[int]int{}
	see := func(l []api.Msg) {
		for _, m := range l {
			kinds[m.Kind]++
			if want := mac.Tag(seed, m.From, m.To, node.Text(m)); m.Tag != want || len(m.Tag) != api.TagSize {
				t.Errorf("%s: %x, not %x", name(m), m.Tag, want)
			}
		}
	}
	w.ask(2, req(0, 1))
	for len(w.mail) > 0 {
		see(w.mail)
		w.flow(len(w.mail))
	}
	see(w.told)
	x := w.twins[1]
	see(x.ticks(4))
	stray := on(4, on(4, w.blocks[2], 9), 10)
	see(x.handle(proposes(1, stray), fetches(3, 1, block.Digest(w.blocks[1]), 0)))
	for kind := api.Propose; kind <= api.Found; kind++ {
		if kinds[kind] == 0 {
			t.Error(kind, "wasn't sent")
		}
	}
}

// What goes to all goes to the node 0 first, and so on; what goes to all others
// goes to all but itself.
func TestToAll(t *testing.T) {
	for n := 1; n <= api.MaxNodes; n++ {
		for id := range n {
			x := newTwin(t, id, n)
			r := req(1, 1)
			var others []api.Msg
			for _, m := range toEach(n, api.Msg{Kind: api.Ask, From: id, Request: r}) {
				if m.To != id {
					others = append(others, m)
				}
			}
			asked := x.ask(r, api.OK)
			if 1%n == id {
				sent(t, asked, append(others, toEach(n, api.Msg{Kind: api.Propose, From: id, Block: first(n, 1, r)})...)...)
			} else {
				sent(t, asked, others...)
			}
			b := first(n, 1, r)
			voted := api.Msg{Kind: api.Voted, From: id, View: 1, Hash: block.Digest(b), Sig: signed(id, n, 1, block.Digest(b))}
			sent(t, x.handle(proposes(id, b)), toEach(n, voted)...)
			sent(t, x.ticks(4), toEach(n, api.Msg{Kind: api.NewView, From: id, View: 2, Cert: x.High()})...)
		}
	}
}
