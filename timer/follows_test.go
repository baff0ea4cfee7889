package timer_test

import (
	"math/rand/v2"
	"testing"

	"comitia/api"
	"comitia/timer"
)

// A witness sees that views never fall, rise with each call that is true and
// with no other one, and keep their bounds.
type witness struct {
	reader
	view int
}

func newWitness(t *testing.T, view int) *witness {
	x := newReader(t, view)
	return &witness{x, x.View()}
}

func (w *witness) saw(told bool) {
	w.t.Helper()
	view := w.View()
	if view < w.view || (view > w.view) != told || view < 1 || view > api.MaxView+1 {
		w.t.Errorf("view %d, told %v, and then %d", w.view, told, view)
	}
	if left := w.Left(); left < 1 || left > timer.Span(w.Fails()) {
		w.t.Errorf("%d left of %d", left, timer.Span(w.Fails()))
	}
	w.view = view
}

func TestViewsNeverFall(t *testing.T) {
	r := rand.New(rand.NewPCG(15, 3))
	told := 0
	for range 2000 {
		w := newWitness(t, someView(r, 1+r.IntN(1000000)))
		calm := 1 + r.IntN(30)
		for range 300 {
			rose := false
			switch r.IntN(2 * calm) {
			case 0:
				rose = w.Enter(someView(r, w.view))
			case 1:
				rose = w.Jump(someView(r, w.view))
			default:
				rose = w.Tick()
			}
			if rose {
				told++
			}
			w.saw(rose)
		}
		if t.Failed() {
			t.FailNow()
		}
	}
	if told < 20000 {
		t.Error("that is no trial", told)
	}
}

// Behind as many ticks as the spans of so many views are, so many have failed,
// from whatever view on; and one tick sooner, one less.
func TestFailsBehindSpans(t *testing.T) {
	for _, view := range []int{1, 2, 77, 1 << 16, api.MaxView - 40} {
		ticks := 0
		for fails := 1; fails <= 40; fails++ {
			ticks += timer.Span(fails - 1)
			x := newReader(t, view)
			told := 0
			for range ticks - 1 {
				if x.Tick() {
					told++
				}
			}
			x.is(view+fails-1, fails-1, 1)
			x.tick(true)
			x.is(view+fails, fails, timer.Span(fails))
			if told != fails-1 {
				t.Errorf("%d ticks, %d views told, not %d", ticks-1, told, fails-1)
			}
		}
	}
}

// From the first view to the halt, without a view entered.
func TestAllViewsFail(t *testing.T) {
	x := newReader(t, 1)
	for fails := range api.MaxView {
		for range timer.Span(fails) - 1 {
			if x.Tick() {
				t.Fatal("the view", x.View(), "is there too soon")
			}
		}
		if !x.Tick() || x.View() != fails+2 || x.Fails() != fails+1 || x.Left() != timer.Span(fails+1) {
			t.Fatal(fails, x.View(), x.Fails(), x.Left())
		}
	}
	x.is(api.MaxView+1, api.MaxView, 16)
	x.tick(false)
	x.is(api.MaxView+1, api.MaxView, 16)
}

// Two timers don't hang on one another, nor does one on what others did ahead
// of it.
func TestTimersApart(t *testing.T) {
	a, b := newReader(t, 3), newReader(t, 3)
	a.fail()
	a.jump(9, true)
	b.is(3, 0, 4)
	b.tick(false)
	b.enter(1<<20, true)
	a.is(9, 1, 8)
	newReader(t, 3).is(3, 0, 4)
	checkSpan(t, 0, 4)
	r := rand.New(rand.NewPCG(15, 4))
	var xs []reader
	var ps []*plain
	for range 20 {
		view := someView(r, 20)
		xs, ps = append(xs, newReader(t, view)), append(ps, newPlain(view))
	}
	for range 20000 {
		i := r.IntN(len(xs))
		next := tickCall()
		if r.IntN(40) == 0 {
			next = []func(int) call{enterCall, jumpCall}[r.IntN(2)](ps[i].view + r.IntN(5) - 2)
		}
		next.ask(xs[i], ps[i])
		if j := r.IntN(len(xs)); !t.Failed() {
			xs[j].is(ps[j].view, ps[j].fails, ps[j].left)
		}
	}
}
