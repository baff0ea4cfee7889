package queue_test

import (
	"fmt"
	"math/big"
	"math/rand/v2"
	"testing"

	"comitia/api"
	"comitia/wire"
)

// A plain queue does what the chapter says, word by word: it has messages' bytes
// in two lanes.
type plain struct {
	first, second []string
	dropped       int
}

func (p *plain) push(b string) api.Errno {
	m, e := wire.ReadMsg(b)
	if e != api.OK {
		return api.ErrForm
	}
	lane := &p.first
	if m.Kind == 4 || m.Kind == 5 {
		lane = &p.second
	}
	if len(*lane) == 64 {
		p.dropped++
		return api.ErrBusy
	}
	*lane = append(*lane, b)
	return api.OK
}

// all is the first lane ahead of the second one.
func (p *plain) all() []string {
	return append(append([]string{}, p.first...), p.second...)
}

// modulo is i modulo n, from 0 on, of numbers as great as they come.
func modulo(i, n int) int {
	return int(new(big.Int).Mod(big.NewInt(int64(i)), big.NewInt(int64(n))).Int64())
}

func (p *plain) pop(i int) (api.Msg, bool) {
	all := p.all()
	if len(all) == 0 {
		return api.Msg{}, false
	}
	at := modulo(i, len(all))
	var a, b []string
	for k, bytes := range all {
		switch {
		case k == at:
		case k < len(p.first):
			a = append(a, bytes)
		default:
			b = append(b, bytes)
		}
	}
	p.first, p.second = a, b
	m, _ := wire.ReadMsg(all[at])
	return m, true
}

func (p *plain) clear() {
	p.first, p.second = nil, nil
}

// What may be done; k tells what is pushed from what was pushed ahead.
var calls = []struct {
	name string
	do   func(x reader, k int)
}{
	{"a vote", func(x reader, k int) { x.push(wire.Msg(msg(api.Voted, k))) }},
	{"an ask", func(x reader, k int) { x.push(wire.Msg(msg(api.Ask, k))) }},
	{"nothing's bytes", func(x reader, k int) { x.push("x") }},
	{"Pop(0)", func(x reader, k int) { x.pop(0) }},
	{"Pop(-1)", func(x reader, k int) { x.pop(-1) }},
	{"Pop(1)", func(x reader, k int) { x.pop(1) }},
	{"Pop(-2)", func(x reader, k int) { x.pop(-2) }},
	{"Clear", func(x reader, k int) { x.clear() }},
}

// All calls so many deep, from queues of these lengths on.
func whatever(t *testing.T, deep, a, b int) {
	total := 1
	for range deep {
		total *= len(calls)
	}
	left, dropped := 0, 0
	for which := range total {
		x := newReader(t)
		x.fill(a, b)
		var names []string
		for k := range deep {
			c := calls[which%len(calls)]
			which /= len(calls)
			names = append(names, c.name)
			c.do(x, 5000+k)
		}
		left += x.Len()
		dropped += x.Dropped()
		x.drain()
		if t.Failed() {
			t.Fatal(a, b, names)
		}
	}
	if left < total/8 || (a == room || b == room) && dropped < total/8 {
		t.Error("that is no trial", a, b, left, dropped)
	}
}

func TestWhateverCalls(t *testing.T) {
	whatever(t, 5, 0, 0)
	whatever(t, 5, 2, 1)
	whatever(t, 4, 1, 3)
	whatever(t, 3, room, 0)
	whatever(t, 3, 0, room)
	whatever(t, 3, room, room-1)
	whatever(t, 3, room-1, room)
	whatever(t, 3, room, room)
}

// somewhere is a place at random.
func somewhere(r *rand.Rand) int {
	switch r.IntN(6) {
	case 0:
		return int(r.Uint64()) >> r.IntN(64)
	case 1:
		return r.IntN(500) - 250
	case 2:
		return -1
	case 3:
		return 0
	}
	return r.IntN(128)
}

// some is a message's bytes at random, or, at times, nothing's.
func some(r *rand.Rand, k int) string {
	kind := 1 + r.IntN(7)
	if r.IntN(3) == 0 {
		kind = api.Ask + r.IntN(2)
	}
	switch r.IntN(12) {
	case 0:
		b := []byte(wire.Msg(full(kind, k)))
		b[r.IntN(len(b))] = byte(r.IntN(256))
		return string(b)
	case 1:
		b := wire.Msg(msg(kind, k))
		return b[:r.IntN(len(b))]
	case 2:
		return wire.Msg(full(kind, k))
	}
	return wire.Msg(msg(kind, k))
}

// Whatever is pushed and popped, at random, in times when more comes than goes,
// and in others.
func TestWhateverComes(t *testing.T) {
	r := rand.New(rand.NewPCG(17, 1))
	answers := map[api.Errno]int{}
	popped, none, cleared := 0, 0, 0
	for range 40 {
		x := newReader(t)
		comes := 5
		for k := range 2000 {
			if r.IntN(200) == 0 {
				comes = r.IntN(11)
			}
			switch {
			case r.IntN(500) == 0:
				x.clear()
				cleared++
			case r.IntN(10) < comes:
				answers[x.push(some(r, k))]++
			default:
				if m := x.pop(somewhere(r)); m.Kind != 0 {
					popped++
				} else {
					none++
				}
			}
		}
		x.drain()
		if t.Failed() {
			t.Fatal(fmt.Sprint(answers))
		}
	}
	if answers[api.OK] < 20000 || answers[api.ErrBusy] < 5000 || answers[api.ErrForm] < 4000 || popped < 10000 || none < 2000 || cleared < 100 {
		t.Error("that is no trial", answers, popped, none, cleared)
	}
}
