package gather_test

import (
	"math/rand/v2"
	"testing"

	"comitia/api"
	"comitia/count"
)

// A witness sees that what a node told never falls, rises with each call that
// is true, of its node alone, and with no other one; that of all views at most
// one is ready; and what goes with that.
type witness struct {
	reader
	told []int
}

func newWitness(t *testing.T, n int) *witness {
	return &witness{newReader(t, n), make([]int, n)}
}

func (w *witness) saw(from, view int) bool {
	w.t.Helper()
	caught := w.Catch()
	rose := w.Put(from, view)
	for node, before := range w.told {
		told := w.At(node)
		if node == from && rose && (told <= before || told != view) ||
			(node != from || !rose) && told != before ||
			told < 0 || told > api.MaxView {
			w.t.Errorf("Put(%d, %d) is %v: %d told %d, and then %d", from, view, rose, node, before, told)
		}
		w.told[node] = told
	}
	if w.Catch() < caught {
		w.t.Errorf("Put(%d, %d): %d was caught, and then %d", from, view, caught, w.Catch())
	}
	w.counts()
	return rose
}

// counts goes through all views that may be ready.
func (w *witness) counts() {
	w.t.Helper()
	n := len(w.told)
	seen := map[int]int{0: 0, -1: 0, api.MaxView + 1: 0}
	for _, view := range w.told {
		seen[view]++
	}
	nodes, ready, past := 0, 0, 0
	for view, want := range seen {
		in := w.In(view)
		nodes += in
		if in != want || w.Ready(view) != (in >= count.Quorum(n)) {
			w.t.Errorf("%v: %d in %d, ready %v", w.told, in, view, w.Ready(view))
		}
		if w.Ready(view) {
			ready++
		}
		if view >= w.Catch() {
			past += in
		}
	}
	if nodes != n || ready > 1 || past < count.Weak(n) {
		w.t.Errorf("%v: %d nodes in all, %d views ready, %d at %d or past it", w.told, nodes, ready, past, w.Catch())
	}
}

// Of nodes that follow one another, and of those that lie.
func TestNeverFalls(t *testing.T) {
	r := rand.New(rand.NewPCG(16, 3))
	rises, ready := 0, 0
	for range 3000 {
		n := 1 + r.IntN(7)
		w := newWitness(t, n)
		near, calm := r.IntN(1000000), 1+r.IntN(40)
		for range 100 {
			view := near
			if r.IntN(6) == 0 {
				view = someView(r, near)
			}
			if w.saw(someNode(r, n), view) {
				rises++
			}
			if w.Ready(near) {
				ready++
			}
			near += r.IntN(calm+1) / calm
		}
		if t.Failed() {
			t.FailNow()
		}
	}
	if rises < 30000 || ready < 30000 {
		t.Error("that is no trial", rises, ready)
	}
}

// Nodes go from view to view one by one: none is ready while there is less than
// a quorum on either side.
func TestOneViewReady(t *testing.T) {
	eachReader(t, func(_ reader, n int) {
		w := newWitness(t, n)
		unready := 0
		for view := 1; view <= 20; view++ {
			for from := range n {
				if !w.saw((from+view)%n, view) {
					t.Error(from, view)
				}
				before, now := w.Ready(view-1), w.Ready(view)
				if before && now {
					t.Error("both", view-1, view)
				}
				if !before && !now {
					unready++
				}
			}
			if !w.Ready(view) {
				t.Error("not", view)
			}
		}
		// So many steps of a round leave less than a quorum behind, and have
		// brought less than a quorum ahead.
		if want := 20 * (2*quorums[n] - n - 1); unready != want {
			t.Errorf("%d times none is ready, not %d", unready, want)
		}
	})
}

// Two gatherings don't hang on one another, nor does one on what others did
// ahead of it.
func TestGatheringsApart(t *testing.T) {
	a, b := newReader(t, 4), newReader(t, 4)
	a.all(3, 5, 5)
	b.is(0, 0, 0, 0)
	b.put(3, 9, true)
	b.put(1, 2, true)
	a.is(3, 5, 5, 0)
	b.is(0, 2, 0, 9)
	newReader(t, 4).is(0, 0, 0, 0)
	r := rand.New(rand.NewPCG(16, 4))
	var xs []reader
	var ps []plain
	for i := range 20 {
		xs, ps = append(xs, newReader(t, i%9)), append(ps, newPlain(i%9))
	}
	rises := 0
	for step := range 10000 {
		i := r.IntN(len(xs))
		from, view := someNode(r, 7), someView(r, step/100)
		want := ps[i].put(from, view)
		if want {
			rises++
		}
		xs[i].put(from, view, want)
		j := r.IntN(len(xs))
		xs[j].is(ps[j].told...)
		if t.Failed() {
			t.FailNow()
		}
	}
	if rises < 1000 {
		t.Error("that is no trial", rises)
	}
}
