package gather_test

import (
	"fmt"
	"math/rand/v2"
	"testing"
)

// A plain gathering does what the chapter says, word by word: of each node the
// greatest view that it told.
type plain struct {
	told []int
}

func newPlain(n int) plain {
	if n < 1 {
		n = 1
	}
	if n > 7 {
		n = 7
	}
	return plain{make([]int, n)}
}

func (p plain) put(from, view int) bool {
	for node, told := range p.told {
		if node == from && view > told && view <= 1000000 {
			p.told[node] = view
			return true
		}
	}
	return false
}

func (p plain) in(view int) int {
	nodes := 0
	for _, told := range p.told {
		if told == view {
			nodes++
		}
	}
	return nodes
}

// catch goes through what was told, and asks of each one how many told that or
// a greater one.
func (p plain) catch() int {
	greatest := 0
	for _, view := range p.told {
		nodes := 0
		for _, told := range p.told {
			if told >= view {
				nodes++
			}
		}
		if nodes >= weaks[len(p.told)] && view > greatest {
			greatest = view
		}
	}
	return greatest
}

// All Puts of some nodes and views, so many deep.
func whatever(t *testing.T, n, deep int, froms, views []int) {
	kinds := len(froms) * len(views)
	total := 1
	for range deep {
		total *= kinds
	}
	rises := 0
	for which := range total {
		x, p := newReader(t, n), newPlain(n)
		var names []string
		for range deep {
			from, view := froms[which%kinds%len(froms)], views[which%kinds/len(froms)]
			which /= kinds
			names = append(names, fmt.Sprintf("Put(%d, %d)", from, view))
			want := p.put(from, view)
			if want {
				rises++
			}
			x.put(from, view, want)
			x.is(p.told...)
		}
		if t.Failed() {
			t.Fatal(n, names)
		}
	}
	if rises < total {
		t.Error("that is no trial", n, rises, total)
	}
}

func TestWhateverPuts(t *testing.T) {
	whatever(t, 1, 4, []int{0}, []int{-1, 0, 1, 2, 3, 999999, 1000000, 1000001})
	whatever(t, 2, 4, []int{0, 1}, []int{1, 2, 1000000, 1000001})
	whatever(t, 3, 4, []int{0, 1, 2}, []int{1, 2, 3})
	whatever(t, 4, 4, []int{0, 1, 2, 3}, []int{1, 2})
	whatever(t, 4, 3, []int{-1, 0, 1, 2, 3, 4}, []int{0, 1, 2, 3})
}

// All gatherings of nodes that told one of few views each.
func TestWhateverViews(t *testing.T) {
	ready, caught := 0, 0
	eachReader(t, func(_ reader, n int) {
		total := 1
		for range n {
			total *= 4
		}
		for which := range total {
			x := newReader(t, n)
			told := make([]int, n)
			for from := range told {
				told[from] = which % 4
				which /= 4
				x.put(from, told[from], told[from] > 0)
			}
			x.is(told...)
			for view := 1; view <= 3; view++ {
				if x.Ready(view) {
					ready++
				}
			}
			if x.Catch() > 0 {
				caught++
			}
		}
	})
	if ready < 500 || caught < 15000 {
		t.Error("that is no trial", ready, caught)
	}
}

// someNode is a node at random, or, at times, none.
func someNode(r *rand.Rand, n int) int {
	switch r.IntN(40) {
	case 0:
		return int(r.Uint64()) >> r.IntN(64)
	case 1:
		return r.IntN(n) + 1<<32
	case 2:
		return r.IntN(2*n+4) - n - 2
	}
	return r.IntN(n)
}

// someView is a view at random, mostly one that isn't far from another one.
func someView(r *rand.Rand, near int) int {
	switch r.IntN(40) {
	case 0:
		return int(r.Uint64()) >> r.IntN(64)
	case 1:
		return 1000000 + r.IntN(6) - 3
	case 2:
		return near + 1<<32
	case 3:
		return near - 1<<32
	}
	return near + r.IntN(7) - 3
}

// Whatever is told, at random, from whatever view on.
func TestWhateverIsTold(t *testing.T) {
	r := rand.New(rand.NewPCG(16, 2))
	rises, ready, split := 0, 0, 0
	for range 2000 {
		n := 1 + r.IntN(7)
		x, p := newReader(t, n), newPlain(n)
		near := r.IntN(20)
		if r.IntN(10) == 0 {
			near = 1000000 - r.IntN(20)
		}
		for range 60 {
			from, view := someNode(r, n), someView(r, near)
			want := p.put(from, view)
			if want {
				rises++
			}
			x.put(from, view, want)
			x.is(p.told...)
			if x.Ready(view) && x.Catch() == view {
				ready++
			}
			if c := x.Catch(); c > 0 && !x.Ready(c) {
				split++
			}
			near += r.IntN(9) / 8
		}
		if t.Failed() {
			t.Fatal(n)
		}
	}
	if rises < 20000 || ready < 3000 || split < 30000 {
		t.Error("that is no trial", rises, ready, split)
	}
}
