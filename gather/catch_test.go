package gather_test

import (
	"slices"
	"testing"

	"comitia/api"
)

// checkIn tells the test if so many nodes aren't in a view, of so many.
func (x reader) checkIn(view, n, want int) {
	x.t.Helper()
	if got := x.In(view); got != want {
		x.t.Errorf("In(%d) is %d, not %d", view, got, want)
	}
	if got := x.Ready(view); got != (want >= quorums[n]) {
		x.t.Errorf("Ready(%d) is %v with %d nodes of %d", view, got, want, n)
	}
}

func (x reader) checkCatch(want int) {
	x.t.Helper()
	if got := x.Catch(); got != want {
		x.t.Errorf("Catch is %d, not %d", got, want)
	}
}

// One node more at a time is in a view, first the first ones and first the
// last ones; from a quorum on the view is ready, from a weak one on it is
// caught.
func TestOneMore(t *testing.T) {
	for _, view := range []int{1, 2, 40, api.MaxView - 1, api.MaxView} {
		eachReader(t, func(x reader, n int) {
			last := newReader(t, n)
			for many := range n + 1 {
				if many > 0 {
					x.put(many-1, view, true)
					last.put(n-many, view, true)
				}
				for _, y := range []reader{x, last} {
					y.checkIn(view, n, many)
					y.checkIn(0, n, n-many)
					y.checkIn(view-1, n, map[bool]int{true: n - many}[view == 1])
					y.checkIn(view+1, n, 0)
					y.checkIn(-view, n, 0)
					if many < weaks[n] {
						y.checkCatch(0)
					} else {
						y.checkCatch(view)
					}
				}
			}
		})
	}
}

// Who goes on isn't in the view any more, but is past it.
func TestOneMoreGoesOn(t *testing.T) {
	eachReader(t, func(x reader, n int) {
		for from := range n {
			x.put(from, 8, true)
		}
		for many := range n + 1 {
			if many > 0 {
				x.put(many-1, 9, true)
			}
			x.checkIn(8, n, n-many)
			x.checkIn(9, n, many)
			if many < weaks[n] {
				x.checkCatch(8)
			} else {
				x.checkCatch(9)
			}
		}
	})
}

// Nodes that are in as many views as they are: no view is ready, if it takes
// more than one node, and what a weak one is at or past is caught, whoever
// they are.
func TestAllApart(t *testing.T) {
	eachReader(t, func(x reader, n int) {
		for shift := range n {
			x := newReader(t, n)
			for from := range n {
				x.put(from, 10+(from+shift)%n, true)
			}
			for view := 10; view < 10+n; view++ {
				x.checkIn(view, n, 1)
			}
			x.checkIn(9, n, 0)
			x.checkIn(10+n, n, 0)
			x.checkCatch(10 + n - weaks[n])
		}
	})
}

// Fewer than a weak one, however far ahead they say that they are, let nothing
// be caught by themselves.
func TestFewerFarAhead(t *testing.T) {
	eachReader(t, func(x reader, n int) {
		few := weaks[n] - 1
		for from := range n {
			view := 30
			if from < few {
				view = api.MaxView - from
			}
			x.put(from, view, true)
		}
		x.checkCatch(30)
		x.checkIn(30, n, n-few)
		if !x.Ready(30) {
			t.Error("the others are no quorum")
		}
		x.put(n-1, 31, true)
		x.checkCatch(31)
	})
}

// The chapter's example, and others, in whatever order they are told.
func TestCatch(t *testing.T) {
	for _, c := range []struct {
		views []int
		want  int
	}{
		{[]int{0}, 0},
		{[]int{7}, 7},
		{[]int{7, 0}, 7},
		{[]int{7, 9}, 9},
		{[]int{7, 9, 8}, 9},
		{[]int{0, 0, 1}, 1},
		{[]int{3, 5, 5, 0}, 5},
		{[]int{3, 5, 6, 0}, 5},
		{[]int{3, 0, 6, 0}, 3},
		{[]int{0, 0, 6, 0}, 0},
		{[]int{3, 5, 6, 7, 0}, 6},
		{[]int{4, 4, 6, 4, 0}, 4},
		{[]int{1, 2, 3, 4, 5, 6}, 5},
		{[]int{1, 2, 3, 4, 5, 6, 7}, 5},
		{[]int{9, 9, 0, 0, 0, 0, 0}, 0},
		{[]int{9, 9, 0, 0, 0, 0, 1}, 1},
		{[]int{9, 9, 0, 4, 0, 9, 1}, 9},
	} {
		n := len(c.views)
		for shift := range n {
			views := slices.Concat(c.views[shift:], c.views[:shift])
			for first := range n {
				x := newReader(t, n)
				for more := range n {
					from := (first + more) % n
					x.put(from, views[from], views[from] > 0)
				}
				x.checkCatch(c.want)
				x.is(views...)
			}
		}
	}
}

// A node that told more than one view is one node, in the last one.
func TestToldOften(t *testing.T) {
	eachReader(t, func(x reader, n int) {
		for view := 1; view <= 9; view++ {
			x.put(n-1, view, true)
			told := make([]int, n)
			told[n-1] = view
			x.is(told...)
			x.checkIn(view-1, n, map[bool]int{true: n - 1}[view == 1])
			x.checkIn(view, n, 1)
		}
		if n > 3 {
			x.checkCatch(0)
		} else {
			x.checkCatch(9)
		}
	})
}
