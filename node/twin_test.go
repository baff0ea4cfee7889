package node_test

import (
	"fmt"
	"maps"
	"slices"
	"strings"
	"testing"

	"comitia/api"
	"comitia/block"
	"comitia/cert"
	"comitia/mac"
	"comitia/node"
	"comitia/rule"
	"comitia/safe"
	"comitia/wire"
)

const seed = "seed"

// A twin is a node, and a plain one, to which the same is done, and which are
// compared behind each call.
type twin struct {
	*node.Node
	t      *testing.T
	id, n  int
	log    *safe.Log
	p      *plain
	counts map[string]int
	done   []string // what was done, the last things of it
}

// newTwin is node id of n nodes, on a new log.
func newTwin(t *testing.T, id, n int) *twin {
	t.Helper()
	return openTwin(t, id, n, "")
}

// openTwin is node id of n nodes, on a log of these bytes.
func openTwin(t *testing.T, id, n int, b string) *twin {
	t.Helper()
	x := &twin{t: t, id: id, n: n, log: safe.Of(b), counts: map[string]int{}}
	x.open(&plainLog{safe: b, fuse: -1})
	return x
}

func (x *twin) open(l *plainLog) {
	x.t.Helper()
	y, e := node.Open(seed, x.id, x.n, x.log)
	if e != api.OK || y == nil {
		x.t.Fatal("Open", e)
	}
	x.Node, x.p = y, openPlain(x.id, x.n, l, x.counts)
	x.note("open")
	x.sends()
}

func (x *twin) note(what string) {
	x.done = append(x.done, what)
	x.done = x.done[max(0, len(x.done)-20):]
}

// wrong ends the test: behind a first difference there are many.
func (x *twin) wrong(what string, got, want any) {
	x.t.Helper()
	x.t.Fatalf("node %d of %d: %s: %v, not %v; done:\n%s", x.id, x.n, what, got, want, strings.Join(x.done, "\n"))
}

// look compares all that can be seen but what is sent.
func (x *twin) look() {
	x.t.Helper()
	if got := x.View(); got != x.p.view {
		x.wrong("View", got, x.p.view)
	}
	if got := x.High(); wire.Cert(got) != wire.Cert(x.p.high) || got.View != x.p.high.View {
		x.wrong("High", got, x.p.high)
	}
	if got := x.State(); got != x.p.state {
		x.wrong("State", got, x.p.state)
	}
	if got, want := x.Committed(), digests(x.p.chain...); !slices.Equal(got, want) {
		x.wrong("Committed", got, want)
	}
	if got := x.Entries(); !slices.Equal(got, x.p.entries) {
		x.wrong("Entries", got, x.p.entries)
	}
	if got := x.Waits(); got != len(x.p.waits) {
		x.wrong("Waits", got, len(x.p.waits))
	}
	if got := x.Dead(); got != x.p.dead {
		x.wrong("Dead", got, x.p.dead)
	}
	if got, want := x.log.Len(), len(x.p.log.safe)+len(x.p.log.waits); got != want {
		x.wrong("the log's length", got, want)
	}
}

// sends are the messages that were to be sent, by now.
func (x *twin) sends() []api.Msg {
	x.t.Helper()
	x.look()
	got, want := x.Send(), x.p.out
	x.p.out = nil
	for i := range max(len(got), len(want)) {
		if i >= len(got) || i >= len(want) || !sameMsg(got[i], want[i]) {
			x.wrong(fmt.Sprint("sent, at ", i), names(got), names(want))
		}
	}
	if again := x.Send(); len(again) > 0 {
		x.wrong("sent again", names(again), "nothing")
	}
	return got
}

// sameMsg tells whether two messages are the same, whichever of their lists are
// nil.
func sameMsg(a, b api.Msg) bool {
	return a.Kind == b.Kind && a.From == b.From && a.To == b.To && a.View == b.View && a.Index == b.Index && wire.Msg(a) == wire.Msg(b)
}

// name is a message in short.
func name(m api.Msg) string {
	kinds := []string{"?", "Propose", "Voted", "NewView", "Ask", "Answer", "Fetch", "Found"}
	s := fmt.Sprint(m.Kind)
	if m.Kind > 0 && m.Kind < len(kinds) {
		s = kinds[m.Kind]
	}
	s += fmt.Sprint(" ", m.From, ">", m.To)
	if m.Kind == api.Propose || m.Kind == api.Found {
		return s + fmt.Sprintf(" %d/%d", m.Block.View, m.Block.Justify.View)
	}
	return s + fmt.Sprintf(" v%d c%d h%.3x r%v i%d", m.View, m.Cert.View, m.Hash, m.Request, m.Index)
}

func names(l []api.Msg) []string {
	var s []string
	for _, m := range l {
		s = append(s, name(m))
	}
	return s
}

// handle hands over messages, and tells what is to be sent then.
func (x *twin) handle(l ...api.Msg) []api.Msg {
	x.t.Helper()
	var all []api.Msg
	for _, m := range l {
		x.note(name(m))
		x.Handle(m)
		x.p.handle(m)
		all = append(all, x.sends()...)
	}
	return all
}

// ask asks, which has to be answered so, and tells what is to be sent then.
func (x *twin) ask(r api.Request, want api.Errno) []api.Msg {
	x.t.Helper()
	x.note(fmt.Sprint("ask ", r))
	got, plain := x.Ask(r), x.p.Ask(r)
	if got != want || got != plain {
		x.wrong("Ask", got, want)
	}
	return x.sends()
}

// ticks lets so many ticks go by, and tells what is to be sent then.
func (x *twin) ticks(n int) []api.Msg {
	x.t.Helper()
	var all []api.Msg
	for range n {
		x.note("tick")
		x.Tick()
		x.p.tick()
		all = append(all, x.sends()...)
	}
	return all
}

// fuse sets a fuse in the log.
func (x *twin) fuse(n int) {
	x.note(fmt.Sprint("fuse ", n))
	x.log.Fuse(n)
	if !x.p.log.lost {
		x.p.log.fuse = max(n, -1)
	}
}

// again is the node opened again, behind a crash.
func (x *twin) again(keep int) {
	x.t.Helper()
	x.note(fmt.Sprint("crash ", keep))
	x.log.Crash(keep)
	x.p.log.crash(keep)
	x.open(x.p.log)
}

// is ends the test, if this isn't what can be seen.
func (x *twin) is(view, high int, s rule.State, committed, entries, waits int) {
	x.t.Helper()
	got := []int{x.View(), x.High().View, x.State().Voted, x.State().Locked, len(x.Committed()), len(x.Entries()), x.Waits()}
	want := []int{view, high, s.Voted, s.Locked, committed, entries, waits}
	if !slices.Equal(got, want) {
		x.wrong("View, High, Voted, Locked, Committed, Entries, Waits", got, want)
	}
}

// nothing ends the test, if calls change or send anything.
func (x *twin) nothing(calls func() []api.Msg) {
	x.t.Helper()
	high, state, view := wire.Cert(x.High()), x.State(), x.View()
	committed, entries, waits, size := x.Committed(), x.Entries(), x.Waits(), x.log.Len()
	if l := calls(); len(l) > 0 {
		x.wrong("sent", names(l), "nothing")
	}
	if wire.Cert(x.High()) != high || x.State() != state || x.View() != view || x.Waits() != waits || x.log.Len() != size ||
		!slices.Equal(x.Committed(), committed) || !slices.Equal(x.Entries(), entries) {
		x.wrong("changed", x.View(), view)
	}
}

// stand are those of the blocks that the node has, committed or not: it sends
// them to one who asks.
func (x *twin) stand(l ...api.Block) []api.Block {
	x.t.Helper()
	var there []api.Block
	for _, b := range l {
		m := fetches(20, x.id, block.Digest(b), len(x.Committed()))
		for _, f := range x.handle(m) {
			if f.Kind == api.Found && f.To == 20 {
				there = append(there, f.Block)
			}
		}
	}
	return there
}

// sent ends the test, if these messages aren't what was sent, but for their
// tags, which sends has compared.
func sent(t *testing.T, got []api.Msg, want ...api.Msg) {
	t.Helper()
	ok := len(got) == len(want)
	for i := range min(len(got), len(want)) {
		ok = ok && sameMsg(got[i], tagged(want[i]))
	}
	if !ok {
		t.Fatalf("sent %q, not %q", names(got), names(want))
	}
}

// of are those of the messages that are of a kind.
func of(kind int, l []api.Msg) []api.Msg {
	return slices.DeleteFunc(slices.Clone(l), func(m api.Msg) bool { return m.Kind != kind })
}

// What tests put together.

// signed is a node's vote.
func signed(from, n, view int, h api.Hash) api.Sig {
	s, e := mac.Sign(seed, from, n, cert.Text(view, h))
	if e != api.OK {
		panic("no such node")
	}
	return s
}

// certOf is the certificate of these nodes' votes; of the first quorum's, if
// none are named.
func certOf(n, view int, h api.Hash, from ...int) api.Cert {
	if len(from) == 0 {
		from = span(quorum(n))
	}
	var l []api.Sig
	for _, i := range from {
		l = append(l, signed(i, n, view, h))
	}
	return cert.Make(view, h, l)
}

// certified is a certificate for a block.
func certified(n int, b api.Block) api.Cert {
	return certOf(n, b.View, block.Digest(b))
}

// on is a block on another one.
func on(n int, parent api.Block, view int, l ...api.Request) api.Block {
	return block.Make(view, n, certified(n, parent), l)
}

// first is a block on the first one.
func first(n, view int, l ...api.Request) api.Block {
	return block.Make(view, n, cert.First(), l)
}

// chain is blocks, each on the one ahead, of these views; each has a request of
// its own.
func chain(n int, views ...int) []api.Block {
	var l []api.Block
	for i, view := range views {
		r := req(i%4, view)
		if i == 0 {
			l = append(l, first(n, view, r))
		} else {
			l = append(l, on(n, l[i-1], view, r))
		}
	}
	return l
}

func req(client, seq int) api.Request {
	return api.Request{Client: client, Seq: seq, Body: fmt.Sprint("body", seq)}
}

func span(n int) []int {
	var l []int
	for i := range n {
		l = append(l, i)
	}
	return l
}

func digests(l ...api.Block) []api.Hash {
	var all []api.Hash
	for _, b := range l {
		all = append(all, block.Digest(b))
	}
	return all
}

// tagged is a message with its sender's tag.
func tagged(m api.Msg) api.Msg {
	m.Tag = mac.Tag(seed, m.From, m.To, text(m))
	return m
}

func proposes(to int, b api.Block) api.Msg {
	return tagged(api.Msg{Kind: api.Propose, From: b.Proposer, To: to, Block: b})
}

func votes(from, to, n int, b api.Block) api.Msg {
	h := block.Digest(b)
	return tagged(api.Msg{Kind: api.Voted, From: from, To: to, View: b.View, Hash: h, Sig: signed(from, n, b.View, h)})
}

func tells(from, to, view int, c api.Cert) api.Msg {
	return tagged(api.Msg{Kind: api.NewView, From: from, To: to, View: view, Cert: c})
}

func asks(from, to int, r api.Request) api.Msg {
	return tagged(api.Msg{Kind: api.Ask, From: from, To: to, Request: r})
}

func fetches(from, to int, h api.Hash, view int) api.Msg {
	return tagged(api.Msg{Kind: api.Fetch, From: from, To: to, Hash: h, View: view})
}

func finds(from, to int, b api.Block) api.Msg {
	return tagged(api.Msg{Kind: api.Found, From: from, To: to, Block: b})
}

// found are the blocks, as one sends them that were asked for.
func found(from, to int, l ...api.Block) []api.Msg {
	var all []api.Msg
	for _, b := range l {
		all = append(all, finds(from, to, b))
	}
	return all
}

// toEach is a message to each of n nodes.
func toEach(n int, m api.Msg) []api.Msg {
	var l []api.Msg
	for m.To = range n {
		l = append(l, tagged(m))
	}
	return l
}

// recorded are the log's bytes of these records.
func recorded(l ...string) string {
	var b strings.Builder
	for _, r := range l {
		b.WriteString(wire.Text(r))
	}
	return b.String()
}

// written are the bytes that a log has.
func written(l *safe.Log) string {
	r, _ := l.Records()
	return recorded(r...)
}

// happened ends the test, if one of these things never happened.
func happened(t *testing.T, counts map[string]int, least int, what ...string) {
	t.Helper()
	for _, w := range what {
		if counts[w] < least {
			var l []string
			for _, k := range slices.Sorted(maps.Keys(counts)) {
				l = append(l, fmt.Sprint(k, " ", counts[k]))
			}
			t.Errorf("that is no trial: %s; %s", w, strings.Join(l, ", "))
		}
	}
}
