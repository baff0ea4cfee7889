package node_test

import (
	"math"
	"strings"
	"testing"

	"comitia/api"
	"comitia/blake"
	"comitia/rule"
	"comitia/wire"
)

// What is asked waits, and is passed on to all others; what a node passes on
// waits, and isn't.
func TestAsk(t *testing.T) {
	for n := 2; n <= api.MaxNodes; n++ {
		for id := range n {
			x := newTwin(t, id, n)
			r := req(3, 1)
			var want []api.Msg
			for to := range n {
				if to != id {
					want = append(want, asks(id, to, r))
				}
			}
			sent(t, of(api.Ask, x.ask(r, api.OK)), want...)
			x.is(1, 0, rule.State{}, 0, 0, 1)
			sent(t, of(api.Ask, x.handle(asks((id+1)%n, id, req(3, 2)))))
			x.is(1, 0, rule.State{}, 0, 0, 2)
		}
	}
	x := newTwin(t, 0, 1)
	sent(t, of(api.Ask, x.ask(req(0, 1), api.OK)))
	if x.Waits() != 1 {
		t.Error(x.Waits())
	}
}

// An Ask comes from clients and nodes, from whatever ends up to 20.
func TestAskFromEnds(t *testing.T) {
	for from := -2; from <= 23; from++ {
		x := newTwin(t, 3, 4)
		x.handle(asks(from, 3, req(1, 1)))
		if got, want := x.Waits() == 1, from >= 0 && from <= 20; got != want {
			t.Errorf("from %d: %t", from, got)
		}
	}
}

// What isn't right doesn't wait, nor is it passed on.
func TestAskWrong(t *testing.T) {
	wrong := []api.Request{
		{}, {Client: 0, Seq: 0, Body: "a"}, {Client: -1, Seq: 1}, {Client: 4, Seq: 1}, {Client: 1, Seq: -1},
		{Client: 1, Seq: 1 << 31}, {Client: 1, Seq: 1, Body: strings.Repeat("a", 41)}, {Client: math.MinInt, Seq: math.MaxInt},
		{Client: 1 << 32, Seq: 1}, {Client: 1, Seq: 1<<32 + 1},
	}
	for _, id := range []int{0, 1} {
		x := newTwin(t, id, 4)
		for _, r := range wrong {
			x.nothing(func() []api.Msg { return append(x.ask(r, api.ErrArg), x.handle(asks(2, id, r))...) })
		}
		for _, r := range []api.Request{{Client: 0, Seq: 1, Body: strings.Repeat("a", 40)}, {Client: 3, Seq: 1<<31 - 1}} {
			x.ask(r, api.OK)
		}
		if x.Waits() != 2 {
			t.Error(x.Waits())
		}
	}
}

// What waits already is known, whatever its body, from whomever.
func TestAskKnown(t *testing.T) {
	x := newTwin(t, 0, 4)
	x.ask(req(1, 1), api.OK)
	x.handle(asks(12, 0, req(2, 1)))
	other := req(2, 1)
	other.Body = "another"
	x.nothing(func() []api.Msg {
		l := append(x.ask(req(1, 1), api.ErrKnown), x.ask(req(2, 1), api.ErrKnown)...)
		return append(append(l, x.ask(other, api.ErrKnown)...), x.handle(asks(1, 0, req(1, 1)), asks(1, 0, other))...)
	})
	x.is(1, 0, rule.State{}, 0, 0, 2)
}

// A full pool: nothing more waits till something is committed.
func TestAskBusy(t *testing.T) {
	n := 4
	x := newTwin(t, 2, n)
	for seq := 1; seq <= 12; seq++ {
		x.ask(req(seq%4, seq), api.OK)
	}
	x.nothing(func() []api.Msg { return append(x.ask(req(0, 13), api.ErrBusy), x.handle(asks(1, 2, req(0, 14)))...) })
	// What is known, or wrong, is told ahead of that.
	x.nothing(func() []api.Msg { return append(x.ask(req(1, 1), api.ErrKnown), x.ask(req(4, 1), api.ErrArg)...) })
	l := chain(n, 1, 2, 3)
	l[0] = first(n, 1, req(1, 1), req(2, 2), req(0, 40))
	l[1], l[2] = on(n, l[0], 2), on(n, on(n, l[0], 2), 3)
	x.handle(found(1, 2, l...)...)
	x.handle(tells(1, 2, 1, certified(n, l[2])))
	x.is(4, 3, rule.State{Locked: 2}, 1, 3, 10)
	x.ask(req(0, 13), api.OK)
	x.handle(asks(1, 2, req(0, 14)))
	x.ask(req(0, 15), api.ErrBusy)
	// What is executed is answered all the same.
	sent(t, of(api.Answer, x.ask(req(0, 40), api.OK)), answers(2, []api.Request{req(1, 1), req(2, 2), req(0, 40)}, 2))
}

// answers is a node's answer: the last of these entries, or an earlier one.
func answers(id int, entries []api.Request, i int) api.Msg {
	h := blake.Sum("ledger")
	for _, r := range entries[:i+1] {
		h = blake.Sum("E" + h + wire.Request(r))
	}
	return api.Msg{Kind: api.Answer, From: id, To: 10 + entries[i].Client, Request: entries[i], Index: i, Hash: h}
}

// executed is a node that has executed these requests, one a block.
func executed(t *testing.T, id, n int, l []api.Request) *twin {
	t.Helper()
	x := newTwin(t, id, n)
	b := first(n, 1, l[0])
	x.handle(finds(0, id, b))
	for i := 1; i < len(l)+2; i++ {
		if i < len(l) {
			b = on(n, b, i+1, l[i])
		} else {
			b = on(n, b, i+1)
		}
		x.handle(finds(0, id, b))
	}
	x.handle(tells(0, id, 1, certified(n, b)))
	if got := len(x.Entries()); got != len(l) {
		t.Fatal(got, "entries")
	}
	return x
}

// What is executed is answered, to its client, with the entry as it is there;
// it isn't passed on, and doesn't wait.
func TestAskExecuted(t *testing.T) {
	l := []api.Request{req(2, 7), req(0, 1), req(2, 6), req(3, 1)}
	x := executed(t, 1, 4, l)
	for i, r := range l {
		sent(t, x.ask(r, api.OK), answers(1, l, i))
		r.Body = strings.Repeat("another", 40)
		sent(t, x.ask(r, api.OK), answers(1, l, i))
		for _, from := range []int{0, 1, 9, 10 + r.Client, 20} {
			sent(t, x.handle(asks(from, 1, r)), answers(1, l, i))
		}
	}
	if x.Waits() != 0 {
		t.Error(x.Waits())
	}
	// Another number of that client isn't executed.
	sent(t, of(api.Answer, x.ask(req(2, 5), api.OK)))
}

// Each request of a block that is committed is answered, to its client, in the
// order of the entries; an older entry for one that was executed already.
func TestAnswers(t *testing.T) {
	n := 7
	r := []api.Request{req(0, 1), req(1, 1), req(2, 1), req(3, 1)}
	other := r[1]
	other.Body = "another"
	a := first(n, 2, r[0], r[1])
	b := on(n, a, 3, other, r[2], r[0])
	c := on(n, b, 4)
	d := on(n, c, 5, r[3])
	x := newTwin(t, 4, n)
	x.ask(other, api.OK)
	x.ask(r[2], api.OK)
	x.ask(r[3], api.OK)
	x.handle(found(0, 4, a, b, c)...)
	got := x.handle(tells(0, 4, 1, certified(n, c)))
	sent(t, of(api.Answer, got), answers(4, r, 0), answers(4, r, 1))
	x.is(5, 4, rule.State{Locked: 3}, 1, 2, 2)
	got = x.handle(finds(0, 4, d), tells(0, 4, 1, certified(n, d)))
	sent(t, of(api.Answer, got), answers(4, r, 1), answers(4, r, 2), answers(4, r, 0))
	x.is(6, 5, rule.State{Locked: 4}, 2, 3, 1)
}
