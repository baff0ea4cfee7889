package node_test

import (
	"math/rand/v2"
	"reflect"
	"slices"
	"testing"

	"comitia/api"
	"comitia/cert"
	"comitia/node"
	"comitia/rule"
	"comitia/safe"
)

func spoilSig(s api.Sig) {
	for i := range cap(s.Tags) {
		s.Tags[:cap(s.Tags)][i] = "spoilt"
	}
}

func spoilCert(c api.Cert) {
	for _, s := range c.Sigs {
		spoilSig(s)
	}
	for i := range cap(c.Sigs) {
		c.Sigs[:cap(c.Sigs)][i] = api.Sig{From: 3, Tags: []string{"spoilt"}}
	}
}

// spoil writes over all lists of a message, and over their spare room.
func spoil(m api.Msg) {
	spoilCert(m.Cert)
	spoilCert(m.Block.Justify)
	spoilSig(m.Sig)
	for i := range cap(m.Block.Batch) {
		m.Block.Batch[:cap(m.Block.Batch)][i] = req(3, 99)
	}
}

// roomySig is a signature whose tags have spare room, in which something stands.
func roomySig(s api.Sig) api.Sig {
	if s.Tags != nil {
		s.Tags = append(slices.Clone(s.Tags), "spare", "spare too")[:len(s.Tags)]
	}
	return s
}

func roomyCert(c api.Cert) api.Cert {
	if c.Sigs != nil {
		var l []api.Sig
		for _, s := range c.Sigs {
			l = append(l, roomySig(s))
		}
		c.Sigs = append(l, api.Sig{From: 9})[:len(l)]
	}
	return c
}

// roomy is a message that shares no list with m, and whose lists have spare
// room.
func roomy(m api.Msg) api.Msg {
	m.Cert, m.Block.Justify, m.Sig = roomyCert(m.Cert), roomyCert(m.Block.Justify), roomySig(m.Sig)
	if m.Block.Batch != nil {
		m.Block.Batch = append(slices.Clone(m.Block.Batch), req(2, 88))[:len(m.Block.Batch)]
	}
	return m
}

// rooms are all lists of a message, with their spare room.
func rooms(m api.Msg) []any {
	l := []any{m.Block.Batch[:cap(m.Block.Batch)]}
	for _, c := range []api.Cert{m.Cert, m.Block.Justify, {Sigs: []api.Sig{m.Sig}}} {
		for _, s := range c.Sigs[:cap(c.Sigs)] {
			l = append(l, s.From, s.Tags[:cap(s.Tags)])
		}
	}
	return l
}

// spoiling hands over a message, and writes over it, and over all that is
// answered behind it; it tells what was to be sent, as the plain node sends it.
func (x *twin) spoiling(m api.Msg) []api.Msg {
	x.t.Helper()
	handed := roomy(m)
	x.note(name(m))
	x.Handle(handed)
	x.p.handle(m)
	if !reflect.DeepEqual(handed, roomy(m)) || !reflect.DeepEqual(rooms(handed), rooms(roomy(m))) {
		x.wrong("changed what was handed in", name(handed), name(m))
	}
	spoil(handed)
	spoilCert(x.High())
	for l := range slices.Chunk(x.Committed(), 1) {
		l[0] = "spoilt"
	}
	for l := range slices.Chunk(x.Entries(), 1) {
		l[0] = req(3, 77)
	}
	x.look()
	got, want := x.Send(), x.p.out
	x.p.out = nil
	if !slices.EqualFunc(got, want, sameMsg) {
		x.wrong("sent", names(got), names(want))
	}
	var l []api.Msg
	for i, m := range got {
		l = append(l, roomy(want[i]))
		spoil(m)
	}
	return l
}

// Four nodes that are handed whatever is sent, out of its order; all of it is
// written over when it was handled.
func TestNothingIsKept(t *testing.T) {
	n := 4
	r := rand.New(rand.NewPCG(18, 9))
	var twins []*twin
	for id := range n {
		twins = append(twins, newTwin(t, id, n))
	}
	var mail []api.Msg
	for seq := 1; seq <= 6; seq++ {
		mail = append(mail, twins[seq%n].ask(req(0, seq), api.OK)...)
		for _, x := range twins {
			mail = append(mail, x.ticks(2)...)
		}
		for len(mail) > 0 {
			i := r.IntN(min(len(mail), 6))
			m := mail[i]
			mail = slices.Delete(mail, i, i+1)
			if m.To < n {
				mail = append(mail, twins[m.To].spoiling(m)...)
			}
		}
	}
	for _, x := range twins {
		if len(x.Entries()) < 4 {
			t.Error(x.id, x.Entries())
		}
	}
}

// A certificate that is told, the highest one or one that waits, isn't kept as
// it was handed in.
func TestCertificatesAreNotKept(t *testing.T) {
	n := 4
	a, b := side(n, 3), side(n, 5)
	x := newTwin(t, 0, n)
	x.handle(finds(1, 0, a))
	for _, c := range []api.Cert{certified(n, a), certified(n, b)} {
		sent(t, of(api.NewView, x.spoiling(tells(1, 0, 1, c))))
	}
	x.is(4, 3, rule.State{}, 0, 0, 0)
	x.handle(finds(1, 0, b))
	x.is(6, 5, rule.State{}, 0, 0, 0)
	if c := x.High(); !cert.Holds(seed, 1, n, c) {
		t.Error(c)
	}
}

// No two messages of what is sent share a list: each one may be written over
// alone.
func TestSentSharesNothing(t *testing.T) {
	n := 4
	w := newRun(t, n, nil)
	w.ask(1, req(0, 1))
	seen := 0
	for k := 0; len(w.mail) > 0 && k < 1000; k++ {
		m := w.mail[0]
		w.mail = w.mail[1:]
		x := w.twins[m.To]
		x.Handle(m)
		x.p.handle(m)
		x.look()
		got, want := x.Send(), x.p.out
		x.p.out = nil
		for i := range got {
			w.post([]api.Msg{roomy(want[i])})
			spoil(got[i])
			for j := i + 1; j < len(got); j++ {
				seen++
				if !sameMsg(got[j], want[j]) {
					t.Fatalf("%s shares a list with %s", name(got[j]), name(want[i]))
				}
			}
		}
	}
	if seen < 50 {
		t.Error("that is no trial", seen)
	}
	x := w.twins[0]
	for range 4 {
		x.Tick()
		x.p.tick()
	}
	got := x.Send()
	spoil(got[0])
	if !cert.Holds(seed, 1, n, got[1].Cert) || got[1].Cert.View == 0 {
		t.Error("NewViews share a list")
	}
	x.Handle(fetches(3, 0, x.Committed()[0], 0))
	got = x.Send()
	spoil(got[0])
	if len(got) != 2 || len(got[1].Block.Batch) != 1 || got[1].Block.Batch[0] != req(0, 1) {
		t.Error("blocks share a list")
	}
}

// Send tells each message once; what came between is there the next time.
func TestSendOnce(t *testing.T) {
	x, _ := node.Open(seed, 0, 4, safe.New())
	if l := x.Send(); len(l) > 0 {
		t.Error(names(l))
	}
	x.Ask(req(0, 1))
	x.Ask(req(0, 2))
	if l := x.Send(); len(l) != 6 || l[0].Request != req(0, 1) || l[3].Request != req(0, 2) {
		t.Error(names(l))
	}
	x.Ask(req(0, 3))
	if l := x.Send(); len(l) != 3 || l[0].Request != req(0, 3) {
		t.Error(names(l))
	}
	if l := x.Send(); len(l) > 0 {
		t.Error(names(l))
	}
}

// Looking changes nothing.
func TestLooking(t *testing.T) {
	x := executed(t, 2, 4, []api.Request{req(0, 1), req(1, 1)})
	x.nothing(func() []api.Msg {
		for range 3 {
			x.View()
			x.High()
			x.State()
			x.Committed()
			x.Entries()
			x.Waits()
			x.Dead()
		}
		return x.sends()
	})
}
