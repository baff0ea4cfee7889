package gather_test

import (
	"fmt"
	"slices"
	"testing"

	"comitia/api"
	"comitia/gather"
)

const (
	greatest = 1<<63 - 1
	least    = -1 << 63
)

// How many of so many nodes make a quorum, and a weak one.
var (
	quorums = []int{1: 1, 2: 2, 3: 3, 4: 3, 5: 4, 6: 5, 7: 5}
	weaks   = []int{1: 1, 2: 1, 3: 1, 4: 2, 5: 2, 6: 2, 7: 3}
)

// The chapter's example.
func Example() {
	g := gather.New(4)
	for from, view := range []int{3, 5, 5, 0} {
		fmt.Println(g.Put(from, view))
	}
	fmt.Println(g.Catch(), g.In(5), g.Ready(5))
	// Output:
	// true
	// true
	// true
	// false
	// 5 2 false
}

// A reader tells the test what a gathering answers otherwise than it should.
type reader struct {
	*gather.Gather
	t *testing.T
}

func newReader(t *testing.T, n int) reader {
	return reader{gather.New(n), t}
}

// eachReader tries what is to be tried of gatherings of each size.
func eachReader(t *testing.T, try func(x reader, n int)) {
	for n := 1; n <= 7; n++ {
		try(newReader(t, n), n)
		if t.Failed() {
			t.Fatal(n, "nodes")
		}
	}
}

func (x reader) put(from, view int, want bool) {
	x.t.Helper()
	if got := x.Put(from, view); got != want {
		x.t.Errorf("Put(%d, %d) is %v", from, view, got)
	}
}

// all puts of each node what it tells, as something new.
func (x reader) all(views ...int) {
	x.t.Helper()
	for from, view := range views {
		x.put(from, view, true)
	}
}

// none are numbers of which no node is.
func none(n int) []int {
	return []int{-1, -2, -n, n, n + 1, n + 7, 8, 100, -1 << 31, 1 << 31, 1<<32 + 9, -1 << 32, 1 << 32, 1<<32 + n - 1, greatest - 1, greatest, least, least + 1}
}

// views are those that these told, those beside them, and those at the edges.
func views(told []int) []int {
	l := []int{0, -1, 1, api.MaxView, api.MaxView + 1, 1 << 31, 1 << 32, -1 << 31, -1 << 32, greatest, least}
	for _, view := range told {
		l = append(l, view-1, view, view+1, -view, view+1<<32, view-1<<32, view+1<<8, view+1<<16)
	}
	slices.Sort(l)
	return slices.Compact(l)
}

// is asks all that can be read, twice, as reading changes nothing.
func (x reader) is(told ...int) {
	x.t.Helper()
	p := plain{told}
	for range 2 {
		for from, view := range told {
			if got := x.At(from); got != view {
				x.t.Errorf("%v: At(%d) is %d", told, from, got)
			}
		}
		for _, from := range none(len(told)) {
			if got := x.At(from); got != 0 {
				x.t.Errorf("%v: At(%d) is %d", told, from, got)
			}
		}
		for _, view := range views(told) {
			in := p.in(view)
			if got := x.In(view); got != in {
				x.t.Errorf("%v: In(%d) is %d, not %d", told, view, got, in)
			}
			if got := x.Ready(view); got != (in >= quorums[len(told)]) {
				x.t.Errorf("%v: Ready(%d) is %v", told, view, got)
			}
		}
		if got, want := x.Catch(), p.catch(); got != want {
			x.t.Errorf("%v: Catch is %d, not %d", told, got, want)
		}
	}
}

// At first all have told none.
func TestNew(t *testing.T) {
	eachReader(t, func(x reader, n int) {
		x.is(make([]int, n)...)
		if x.In(0) != n || !x.Ready(0) || x.Catch() != 0 {
			t.Error(x.In(0), x.Ready(0), x.Catch())
		}
	})
}

// sized tells the test if the nodes aren't those from 0 below n.
func sized(t *testing.T, n, want int) {
	t.Helper()
	x := newReader(t, n)
	told := make([]int, want)
	x.is(told...)
	for _, from := range none(want) {
		x.put(from, 3, false)
	}
	for from := range want {
		x.put(from, 3, true)
		told[from] = 3
		x.is(told...)
	}
	if t.Failed() {
		t.Fatal(n, "nodes, not", want)
	}
}

func TestNewBelowOne(t *testing.T) {
	for _, n := range []int{0, -1, -2, -4, -7, -8, -1 << 31, -1<<31 - 1, -1 << 32, -1<<32 + 4, least + 4, least + 1, least} {
		sized(t, n, 1)
	}
}

func TestNewAboveAll(t *testing.T) {
	for n := 1; n <= 7; n++ {
		sized(t, n, n)
	}
	for _, n := range []int{8, 9, 14, 100, 256, 260, 1<<16 + 4, 1<<31 - 1, 1 << 31, 1 << 32, 1<<32 + 4, 1 << 62, greatest - 1, greatest} {
		sized(t, n, 7)
	}
}

// A gathering that New hasn't made is of no nodes.
func TestNotNew(t *testing.T) {
	x := reader{&gather.Gather{}, t}
	for range 2 {
		for from := -1; from <= 7; from++ {
			x.put(from, 1, false)
			x.put(from, 0, false)
			if x.At(from) != 0 || x.In(from) != 0 || x.Ready(from) {
				t.Error(from, x.At(from), x.In(from), x.Ready(from))
			}
		}
		if x.Catch() != 0 {
			t.Error(x.Catch())
		}
	}
}

// Each node tells views that rise, one and many at a time.
func TestPutAbove(t *testing.T) {
	eachReader(t, func(x reader, n int) {
		told := make([]int, n)
		for _, view := range []int{1, 2, 3, 5, 127, 128, 255, 256, 32768, 65535, 65536, api.MaxView - 1, api.MaxView} {
			for from := range n {
				x.put(from, view, true)
				told[from] = view
				x.is(told...)
			}
		}
	})
}

// From the first view to the last one.
func TestPutAllViews(t *testing.T) {
	x := newReader(t, 2)
	for view := 1; view <= api.MaxView; view++ {
		if !x.Put(1, view) || x.At(1) != view || x.At(0) != 0 {
			t.Fatal(view, x.At(1))
		}
	}
	x.is(0, api.MaxView)
}

// What was told already, and what is below that, changes nothing.
func TestPutNotAbove(t *testing.T) {
	eachReader(t, func(x reader, n int) {
		for from := range n {
			x := newReader(t, n)
			told := make([]int, n)
			for _, view := range []int{0, 1, 2, 9, 1000, api.MaxView} {
				if view > 0 {
					x.put(from, view, true)
				}
				told[from] = view
				for _, less := range []int{view, view - 1, view - 2, view / 2, 0, -1, -2, -view, -view - 1, -1 << 31, view + 1 - 1<<32, -1 << 32, least + view + 1, least + 1, least} {
					x.put(from, less, less > view)
					x.is(told...)
				}
			}
		}
	})
}

// MaxView is a view as any other one; what is above it is none.
func TestPutAboveAll(t *testing.T) {
	eachReader(t, func(x reader, n int) {
		told := make([]int, n)
		for _, view := range []int{0, 1, 7, api.MaxView - 1, api.MaxView} {
			for from := range n {
				x.put(from, view, view > 0)
				told[from] = view
				for _, more := range []int{api.MaxView + 1, api.MaxView + 2, 2 * api.MaxView, 1<<31 - 1, 1 << 31, 1 << 32, 1<<32 + view + 1, greatest - 1, greatest} {
					x.put(from, more, false)
					x.is(told...)
				}
			}
		}
	})
}

// Who isn't a node tells nothing.
func TestPutOfNone(t *testing.T) {
	eachReader(t, func(x reader, n int) {
		told := make([]int, n)
		for _, view := range []int{0, 5, 6} {
			for from := range n {
				x.put(from, view, view > 0)
				told[from] = view
			}
			for _, from := range none(n) {
				for _, view := range []int{least, -1, 0, 1, 4, 5, 6, 7, api.MaxView, api.MaxView + 1, greatest} {
					x.put(from, view, false)
				}
				x.is(told...)
			}
		}
	})
}
