package node_test

import (
	"math/rand/v2"
	"slices"
	"testing"

	"comitia/api"
	"comitia/block"
)

// A run is n nodes that hand one another all that they send, in some order, and
// what clients were told.
type run struct {
	t      *testing.T
	r      *rand.Rand // nil, if it is to be the order in which it was sent
	twins  []*twin
	mail   []api.Msg
	told   []api.Msg
	blocks []api.Block // that were proposed
	voted  map[[2]int]api.Hash
}

func newRun(t *testing.T, n int, r *rand.Rand) *run {
	t.Helper()
	w := &run{t: t, r: r, voted: map[[2]int]api.Hash{}}
	for id := range n {
		w.twins = append(w.twins, newTwin(t, id, n))
	}
	return w
}

// post puts on the way what a node sent.
func (w *run) post(l []api.Msg) {
	w.t.Helper()
	for _, m := range l {
		if m.Kind == api.Voted {
			w.vote(m)
		}
		if m.Kind == api.Propose && m.To == 0 {
			w.blocks = append(w.blocks, m.Block)
		}
		if m.To < len(w.twins) {
			w.mail = append(w.mail, m)
		} else {
			w.told = append(w.told, m)
		}
	}
}

// vote sees that a node votes for one block in a view.
func (w *run) vote(m api.Msg) {
	w.t.Helper()
	key := [2]int{m.From, m.View}
	if h, ok := w.voted[key]; ok && h != m.Hash {
		w.t.Fatalf("%d voted twice in the view %d", m.From, m.View)
	}
	w.voted[key] = m.Hash
}

func (w *run) ask(id int, r api.Request) {
	w.t.Helper()
	w.post(w.twins[id].ask(r, api.OK))
}

func (w *run) tick(id int) {
	w.t.Helper()
	w.post(w.twins[id].ticks(1))
}

// flow hands over so many messages at most, and tells how many.
func (w *run) flow(most int) int {
	w.t.Helper()
	for k := range most {
		if len(w.mail) == 0 {
			return k
		}
		i := 0
		if w.r != nil {
			i = w.r.IntN(len(w.mail))
		}
		m := w.mail[i]
		w.mail = slices.Delete(w.mail, i, i+1)
		w.post(w.twins[m.To].handle(m))
	}
	return most
}

// one sees that what any two nodes have committed is the beginning of what the
// other one has.
func (w *run) one() {
	w.t.Helper()
	for _, x := range w.twins {
		for _, y := range w.twins {
			a, b := x.Committed(), y.Committed()
			if k := min(len(a), len(b)); !slices.Equal(a[:k], b[:k]) {
				w.t.Fatalf("%d and %d committed unlike blocks", x.id, y.id)
			}
		}
	}
}

// all sees that all nodes have the same entries, just these in some order, and
// that of each request each node told its client the same.
func (w *run) all(l ...api.Request) {
	w.t.Helper()
	w.one()
	want := w.twins[0].Entries()
	if len(want) != len(l) {
		w.t.Fatalf("%v, not %v", want, l)
	}
	for _, r := range l {
		if !slices.Contains(want, r) {
			w.t.Errorf("%v isn't in %v", r, want)
		}
	}
	for _, x := range w.twins {
		if !slices.Equal(x.Entries(), want) || x.Waits() != 0 {
			w.t.Errorf("%d: %v waits %d, not %v", x.id, x.Entries(), x.Waits(), want)
		}
	}
	for i, r := range want {
		var from []int
		hash := ""
		for _, m := range w.told {
			if m.Request == r && m.Index == i && m.To == 10+r.Client && (hash == "" || hash == m.Hash) {
				from = append(from, m.From)
				hash = m.Hash
			}
		}
		slices.Sort(from)
		if !slices.Equal(slices.Compact(from), span(len(w.twins))) {
			w.t.Errorf("%v was told by %v", r, from)
		}
	}
}

// A node alone: Ask; it proposes, votes, certifies, four views on: committed.
func TestAlone(t *testing.T) {
	w := newRun(t, 1, nil)
	r := req(2, 1)
	x := w.twins[0]
	w.post(x.ask(r, api.OK))
	var l []api.Block
	for view := 1; view <= 3; view++ {
		if len(w.mail) != 1 || w.mail[0].Kind != api.Propose || w.mail[0].Block.View != view {
			t.Fatal(view, names(w.mail))
		}
		l = append(l, w.mail[0].Block)
		if x.View() != view || len(x.Committed()) != 0 {
			t.Error(view, x.View(), x.Committed())
		}
		w.flow(1)
		if len(w.mail) != 1 || w.mail[0].Kind != api.Voted || x.State().Voted != view {
			t.Fatal(view, names(w.mail))
		}
		w.flow(1)
	}
	x.is(4, 3, x.State(), 1, 1, 0)
	if len(l[0].Batch) != 1 || len(l[1].Batch) != 0 || len(l[2].Batch) != 0 || !slices.Equal(x.Committed(), digests(l[0])) {
		t.Error(l)
	}
	w.all(r)
	// Nothing is to do any more.
	if len(w.mail) != 0 || len(w.told) != 1 {
		t.Error(names(w.mail), names(w.told))
	}
}

// Four nodes, and what each of them tells behind each round: all that was sent
// in one is handed over in the next one.
func TestFourByRounds(t *testing.T) {
	w := newRun(t, 4, nil)
	r := req(1, 1)
	w.ask(3, r)
	// View, the highest certificate's view, Voted, Locked, how many blocks are
	// committed, entries, and requests that wait; what was sent.
	table := []struct {
		sees  [7]int
		kinds []int
	}{
		{[7]int{1, 0, 0, 0, 0, 0, 1}, []int{api.Propose, 4}},
		{[7]int{1, 0, 1, 0, 0, 0, 1}, []int{api.Voted, 16}},
		{[7]int{2, 1, 1, 0, 0, 0, 1}, []int{api.Propose, 4}},
		{[7]int{2, 1, 2, 0, 0, 0, 1}, []int{api.Voted, 16}},
		{[7]int{3, 2, 2, 1, 0, 0, 1}, []int{api.Propose, 4}},
		{[7]int{3, 2, 3, 1, 0, 0, 1}, []int{api.Voted, 16}},
		{[7]int{4, 3, 3, 2, 1, 1, 0}, nil},
	}
	for round, want := range table {
		w.flow(len(w.mail))
		for _, x := range w.twins {
			got := [7]int{x.View(), x.High().View, x.State().Voted, x.State().Locked, len(x.Committed()), len(x.Entries()), x.Waits()}
			if got != want.sees {
				t.Errorf("round %d, node %d: %v, not %v", round, x.id, got, want.sees)
			}
		}
		if want.kinds == nil {
			want.kinds = []int{0, 0}
		}
		if got := of(want.kinds[0], w.mail); len(got) != len(w.mail) || len(got) != want.kinds[1] {
			t.Fatalf("round %d: %q", round, names(w.mail))
		}
	}
	w.all(r)
	if len(w.told) != 4 || len(w.blocks) != 3 {
		t.Error(names(w.told), len(w.blocks))
	}
}

// Nodes that hand one another all that they send, in whatever order, with
// requests asked of one of them: all is executed once, everywhere.
func TestWhateverOrder(t *testing.T) {
	t.Parallel()
	for n := 1; n <= api.MaxNodes; n++ {
		for k := range 12 {
			r := rand.New(rand.NewPCG(uint64(n), uint64(k)))
			w := newRun(t, n, r)
			var l []api.Request
			for i := range 1 + r.IntN(8) {
				l = append(l, req(r.IntN(4), i+1))
				w.ask(r.IntN(n), l[i])
				w.flow(r.IntN(60))
			}
			w.settle(len(l))
			w.all(l...)
		}
	}
}

// settle lets all nodes tick till so many entries are everywhere.
func (w *run) settle(entries int) {
	w.t.Helper()
	for range 400 {
		done := len(w.mail) == 0
		for _, x := range w.twins {
			done = done && len(x.Entries()) == entries
		}
		if done {
			return
		}
		w.flow(100000)
		for id := range w.twins {
			w.tick(id)
		}
	}
	w.t.Error("not all is executed", entries)
}

// Each block that is committed was proposed, and stands on the one ahead.
func TestCommittedWasProposed(t *testing.T) {
	for _, n := range []int{1, 4, 7} {
		w := newRun(t, n, rand.New(rand.NewPCG(18, uint64(n))))
		for k := range 5 {
			w.ask(k%n, req(k%4, k+1))
			w.flow(50)
		}
		w.settle(5)
		proposed := map[api.Hash]api.Block{}
		for _, b := range w.blocks {
			proposed[block.Digest(b)] = b
		}
		for _, x := range w.twins {
			parent := block.First()
			for _, h := range x.Committed() {
				b, ok := proposed[h]
				if !ok || block.Parent(b) != parent {
					t.Fatalf("%d of %d: %x", x.id, n, h)
				}
				parent = h
			}
		}
	}
}
