package timer_test

import (
	"testing"

	"comitia/api"
	"comitia/timer"
)

// A reader tells the test what a timer answers otherwise than it should.
type reader struct {
	*timer.Timer
	t *testing.T
}

func newReader(t *testing.T, view int) reader {
	return reader{timer.New(view), t}
}

// is asks all that can be read, twice, as reading changes nothing.
func (x reader) is(view, fails, left int) {
	x.t.Helper()
	for range 2 {
		if v, f, l, h := x.View(), x.Fails(), x.Left(), x.Halted(); v != view || f != fails || l != left || h != (view > api.MaxView) {
			x.t.Errorf("view %d, %d failed, %d left, halted %v; not %d, %d, %d", v, f, l, h, view, fails, left)
		}
	}
}

func (x reader) tick(want bool) {
	x.t.Helper()
	if got := x.Tick(); got != want {
		x.t.Errorf("Tick is %v", got)
	}
}

func (x reader) enter(view int, want bool) {
	x.t.Helper()
	if got := x.Enter(view); got != want {
		x.t.Errorf("Enter(%d) is %v", view, got)
	}
}

func (x reader) jump(view int, want bool) {
	x.t.Helper()
	if got := x.Jump(view); got != want {
		x.t.Errorf("Jump(%d) is %v", view, got)
	}
}

// fail ticks till the view fails.
func (x reader) fail() {
	x.t.Helper()
	for x.Left() > 1 {
		x.tick(false)
	}
	x.tick(true)
}

// failed is a timer in a view, behind so many that failed.
func failed(t *testing.T, view, fails int) reader {
	t.Helper()
	x := newReader(t, view-fails)
	for range fails {
		x.fail()
	}
	x.is(view, fails, plainSpan(fails))
	return x
}

func TestNew(t *testing.T) {
	for _, view := range []int{1, 2, 3, 7, 1000, api.MaxView - 1, api.MaxView, api.MaxView + 1} {
		newReader(t, view).is(view, 0, 4)
	}
}

func TestNewBelowOne(t *testing.T) {
	for _, view := range []int{0, -1, -2, -api.MaxView, -1 << 31, -1<<31 - 1, -1 << 32, -1<<32 + 5, least + 1, least} {
		newReader(t, view).is(1, 0, 4)
	}
}

func TestNewAboveAll(t *testing.T) {
	for _, view := range []int{api.MaxView + 2, api.MaxView + 3, 2 * api.MaxView, 1<<31 - 1, 1 << 31, 1<<32 + 5, 1 << 32, 1 << 62, greatest - 1, greatest} {
		x := newReader(t, view)
		x.is(api.MaxView+1, 0, 4)
		x.tick(false)
		x.is(api.MaxView+1, 0, 4)
	}
}

// A timer that New hasn't made is in the first view.
func TestNotNew(t *testing.T) {
	x := reader{&timer.Timer{}, t}
	x.is(1, 0, 4)
	x.enter(1, false)
	x.jump(0, false)
	x.fail()
	x.is(2, 1, 8)
	x = reader{new(timer.Timer), t}
	x.jump(5, true)
	x.is(5, 0, 4)
}

// Each tick is told, of each view till the spans don't grow any more.
func TestTicks(t *testing.T) {
	x := newReader(t, 1)
	for fails, span := range []int{4, 8, 16, 16, 16, 16} {
		for left := span; left > 1; left-- {
			x.is(1+fails, fails, left)
			x.tick(false)
		}
		x.is(1+fails, fails, 1)
		x.tick(true)
	}
	x.is(7, 6, 16)
}

func TestTicksElsewhere(t *testing.T) {
	for _, view := range []int{2, 3, 4, 1000, api.MaxView - 3} {
		x := newReader(t, view)
		for fails, span := range []int{4, 8, 16} {
			x.is(view+fails, fails, span)
			for range span - 1 {
				x.tick(false)
			}
			x.tick(true)
		}
		x.is(view+3, 3, 16)
	}
}

// The last view fails as any other one, and then there is none.
func TestTickIntoHalt(t *testing.T) {
	for fails := range 5 {
		x := failed(t, api.MaxView, fails)
		for left := plainSpan(fails); left > 1; left-- {
			x.is(api.MaxView, fails, left)
			x.tick(false)
		}
		x.tick(true)
		x.is(api.MaxView+1, fails+1, plainSpan(fails+1))
	}
}

// At the halt nothing does anything any more.
func TestHalted(t *testing.T) {
	for fails := range 5 {
		x := failed(t, api.MaxView+1, fails)
		for range 100 {
			x.tick(false)
		}
		for _, view := range []int{least, -1, 0, 1, api.MaxView - 1, api.MaxView, api.MaxView + 1, api.MaxView + 2, 3 * api.MaxView, 1 << 32, greatest} {
			x.enter(view, false)
			x.jump(view, false)
			x.tick(false)
			x.is(api.MaxView+1, fails, plainSpan(fails))
		}
	}
}
