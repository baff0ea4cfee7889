package timer_test

import (
	"testing"

	"comitia/api"
)

// Views that aren't above this one.
func notAbove(view int) []int {
	return []int{view, view - 1, view - 2, 1, 0, -1, -view, -view - 1, -1 << 31, -1<<32 + view + 1, -1 << 32, least + view + 1, least + 1, least}
}

// What is above leads there, the next view and the farther ones, whatever
// failed and whatever time has gone by.
func TestEnterAbove(t *testing.T) {
	for fails := range 5 {
		for gone := range 4 {
			for _, more := range []int{1, 2, 3, 100, 1 << 16, api.MaxView - 20, api.MaxView - 10} {
				x := failed(t, 10, fails)
				for range gone {
					x.tick(false)
				}
				x.enter(10+more, true)
				x.is(10+more, 0, 4)
			}
		}
	}
}

// Likewise, but what failed has failed.
func TestJumpAbove(t *testing.T) {
	for fails := range 5 {
		for gone := range 4 {
			for _, more := range []int{1, 2, 3, 100, 1 << 16, api.MaxView - 20, api.MaxView - 10} {
				x := failed(t, 10, fails)
				for range gone {
					x.tick(false)
				}
				x.jump(10+more, true)
				x.is(10+more, fails, plainSpan(fails))
			}
		}
	}
}

// The view itself, and what is below it, changes nothing: neither what failed
// nor the time that has gone by.
func TestNotAbove(t *testing.T) {
	for fails := range 5 {
		for gone := range plainSpan(fails) {
			x := failed(t, 10, fails)
			for range gone {
				x.tick(false)
			}
			for _, view := range notAbove(10) {
				x.enter(view, false)
				x.is(10, fails, plainSpan(fails)-gone)
				x.jump(view, false)
				x.is(10, fails, plainSpan(fails)-gone)
			}
			x.fail()
			x.is(11, fails+1, plainSpan(fails+1))
		}
	}
}

// At the first view there is none below it.
func TestNotAboveFirst(t *testing.T) {
	x := newReader(t, 1)
	x.tick(false)
	for _, view := range notAbove(1) {
		x.enter(view, false)
		x.jump(view, false)
		x.is(1, 0, 3)
	}
	x.enter(2, true)
	x.is(2, 0, 4)
}

// MaxView + 1 at most.
func TestFarAbove(t *testing.T) {
	for _, view := range []int{api.MaxView + 1, api.MaxView + 2, 2 * api.MaxView, 1<<31 - 1, 1 << 31, 1 << 32, 1<<32 + 3, 1<<32 + 11, greatest - 1, greatest} {
		for fails := range 5 {
			for _, from := range []int{10, api.MaxView - 1, api.MaxView} {
				x := failed(t, from, fails)
				x.enter(view, true)
				x.is(api.MaxView+1, 0, 4)
				x.enter(view, false)
				x.jump(view, false)
				x = failed(t, from, fails)
				x.jump(view, true)
				x.is(api.MaxView+1, fails, plainSpan(fails))
				x.jump(view, false)
				x.enter(view, false)
				x.is(api.MaxView+1, fails, plainSpan(fails))
			}
		}
	}
}

// MaxView is a view as any other one.
func TestLastView(t *testing.T) {
	x := failed(t, api.MaxView-1, 1)
	x.jump(api.MaxView, true)
	x.is(api.MaxView, 1, 8)
	x.enter(api.MaxView, false)
	x.jump(api.MaxView, false)
	x.tick(false)
	x.is(api.MaxView, 1, 7)
	x = failed(t, api.MaxView-1, 1)
	x.enter(api.MaxView, true)
	x.is(api.MaxView, 0, 4)
	x.jump(api.MaxView+1, true)
	x.is(api.MaxView+1, 0, 4)
}

// What was entered counts its fails anew; what was jumped to goes on.
func TestFailsBehindEnter(t *testing.T) {
	x := failed(t, 3, 2)
	x.enter(4, true)
	for fails, span := range []int{4, 8, 16, 16} {
		x.is(4+fails, fails, span)
		x.fail()
	}
	x = failed(t, 2, 1)
	x.jump(9, true)
	for fails, span := range []int{8, 16, 16} {
		x.is(9+fails, 1+fails, span)
		x.fail()
	}
	x.enter(30, true)
	x.jump(40, true)
	x.is(40, 0, 4)
}

// However many have failed, they have failed still where it jumps to.
func TestJumpBehindMany(t *testing.T) {
	x := newReader(t, 1)
	fails, jumps := 0, 0
	for _, many := range []int{100, 127, 128, 200, 255, 256, 300, 33000, 65535, 65536, 70000} {
		for fails < many {
			if x.Tick() {
				fails++
			}
		}
		x.tick(false)
		jumps++
		x.jump(x.View()+2, true)
		x.is(1+fails+2*jumps, many, 16)
	}
	x.jump(greatest, true)
	x.is(api.MaxView+1, 70000, 16)
}
