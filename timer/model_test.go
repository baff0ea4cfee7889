package timer_test

import (
	"fmt"
	"math/rand/v2"
	"testing"
)

// A plain timer does what the chapter says, word by word.
type plain struct {
	view, fails, left int
}

func newPlain(view int) *plain {
	if view < 1 {
		view = 1
	}
	if view > 1000001 {
		view = 1000001
	}
	return &plain{view, 0, plainSpan(0)}
}

func (p *plain) tick() bool {
	if p.view > 1000000 {
		return false
	}
	p.left--
	if p.left > 0 {
		return false
	}
	p.view++
	p.fails++
	p.left = plainSpan(p.fails)
	return true
}

func (p *plain) enter(view int) bool {
	if !p.jump(view) {
		return false
	}
	p.fails = 0
	p.left = plainSpan(0)
	return true
}

func (p *plain) jump(view int) bool {
	if p.view > 1000000 || view <= p.view {
		return false
	}
	p.view = view
	if view > 1000001 {
		p.view = 1000001
	}
	p.left = plainSpan(p.fails)
	return true
}

// A call is one that a timer and a plain one are asked alike; it tells whether
// that was true.
type call struct {
	name string
	ask  func(x reader, p *plain) bool
}

func tickCall() call {
	return call{"Tick", func(x reader, p *plain) bool {
		want := p.tick()
		x.tick(want)
		return want
	}}
}

// ticksCall is so many ticks, so that few calls come past a span; it tells
// whether the last one was true.
func ticksCall(n int) call {
	return call{fmt.Sprint(n, " ticks"), func(x reader, p *plain) bool {
		rose := false
		for range n {
			rose = tickCall().ask(x, p)
		}
		return rose
	}}
}

func enterCall(view int) call {
	return call{fmt.Sprint("Enter ", view), func(x reader, p *plain) bool {
		want := p.enter(view)
		x.enter(view, want)
		return want
	}}
}

func jumpCall(view int) call {
	return call{fmt.Sprint("Jump ", view), func(x reader, p *plain) bool {
		want := p.jump(view)
		x.jump(view, want)
		return want
	}}
}

// All calls so many deep, from a view on.
func whateverCalls(t *testing.T, view, deep int, calls []call) {
	total := 1
	for range deep {
		total *= len(calls)
	}
	rises := 0
	for which := range total {
		x, p := newReader(t, view), newPlain(view)
		var names []string
		for range deep {
			next := calls[which%len(calls)]
			which /= len(calls)
			names = append(names, next.name)
			if next.ask(x, p) {
				rises++
			}
			x.is(p.view, p.fails, p.left)
		}
		if t.Failed() {
			t.Fatal(view, names)
		}
	}
	if rises < total {
		t.Error("that is no trial", rises)
	}
}

func TestWhateverFiveCalls(t *testing.T) {
	whateverCalls(t, 1, 5, []call{
		tickCall(), ticksCall(3), ticksCall(4), ticksCall(8), ticksCall(16),
		enterCall(1), enterCall(2), enterCall(3), enterCall(5),
		jumpCall(1), jumpCall(2), jumpCall(3), jumpCall(5),
	})
}

// About the halt.
func TestWhateverFourCallsAtTheEnd(t *testing.T) {
	for view := 999997; view <= 999999; view++ {
		calls := []call{tickCall(), ticksCall(3), ticksCall(4), ticksCall(8)}
		for to := view; to <= 1000003; to++ {
			calls = append(calls, enterCall(to), jumpCall(to))
		}
		whateverCalls(t, view, 4, calls)
	}
}

// someView is a view at random, mostly one that isn't far from another one.
func someView(r *rand.Rand, near int) int {
	switch r.IntN(30) {
	case 0:
		return int(r.Uint64()) >> r.IntN(64)
	case 1:
		return 1000000 + r.IntN(6) - 3
	case 2:
		return near + 1<<32
	}
	return near + r.IntN(9) - 4
}

// Whatever calls, at random, from whatever view on.
func TestWhateverCalls(t *testing.T) {
	r := rand.New(rand.NewPCG(15, 2))
	rises, halted, most := 0, 0, 0
	for range 3000 {
		view := someView(r, 5)
		if r.IntN(6) == 0 {
			view = 1000000 - r.IntN(12)
		}
		x, p := newReader(t, view), newPlain(view)
		calm := 1 + r.IntN(60)
		for range 200 {
			next := tickCall()
			if r.IntN(calm) == 0 {
				next = []func(int) call{enterCall, jumpCall}[r.IntN(2)](someView(r, p.view))
			}
			if next.ask(x, p) {
				rises++
			}
			if p.view > 1000000 {
				halted++
			}
			most = max(most, p.fails)
			x.is(p.view, p.fails, p.left)
			if t.Failed() {
				t.Fatal(view, next.name)
			}
		}
	}
	if rises < 30000 || halted < 100000 || halted > 500000 || most < 10 {
		t.Error("that is no trial", rises, halted, most)
	}
}
