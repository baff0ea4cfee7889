package store_test

import (
	"slices"
	"testing"

	"comitia/api"
	"comitia/rule"
	"comitia/safe"
	"comitia/store"
)

// A try is a Save on what is remembered: views of 3 and 2, and the middle block.
type try struct {
	x       rule.State
	l       []api.Block
	records []string // that it appends
}

func tries() []try {
	a, b, c := small(5, 5), greatestBlock(), small(6, 6)
	ra, rb, rc := smallRecord(5, 5), store.BlockRecord(b), smallRecord(6, 6)
	return []try{
		{views(4, 2), nil, []string{stateRecord(4, 2)}},
		{views(2, 4), nil, []string{stateRecord(2, 4)}},
		{views(1, 1), nil, []string{stateRecord(1, 1)}},
		{views(3, 2), []api.Block{a}, []string{ra}},
		{views(4, 3), []api.Block{a}, []string{ra, stateRecord(4, 3)}},
		{views(3, 2), []api.Block{a, b, c}, []string{ra, rb, rc}},
		{views(4, 1), []api.Block{a, c, a}, []string{ra, rc, ra, stateRecord(4, 1)}},
		{views(9, 9), []api.Block{c, b}, []string{rc, rb, stateRecord(9, 9)}},
	}
}

// before is a memory, with its log, on which a try is made.
func before(t *testing.T) (*store.Store, *safe.Log, []string) {
	t.Helper()
	s, l := saved(t, views(3, 2), middle())
	return s, l, []string{store.BlockRecord(middle()), stateRecord(3, 2)}
}

// wholeIn are the first ones of the records that are whole in so many bytes.
func wholeIn(records []string, size int) []string {
	many := 0
	for many < len(records) && len(laid(records[:many+1]...)) <= size {
		many++
	}
	return records[:many]
}

// Wherever the power goes, nothing more is remembered here; behind a crash
// there is what of the records was kept whole.
func TestSaveWhereThePowerGoes(t *testing.T) {
	for _, x := range tries() {
		for fuse := range len(x.records) + 1 {
			waits := len(laid(x.records[:min(fuse, len(x.records))]...))
			for keep := range waits + 1 {
				s, l, was := before(t)
				size := l.Len()
				l.Fuse(fuse)
				check(t, s.Save(x.x, x.l), api.ErrLost)
				checkStore(t, s, views(3, 2), middle())
				if l.Len() != size+waits {
					t.Fatal(l.Len(), size, waits)
				}
				checkAllLost(t, s, l)
				l.Crash(keep)
				checkStore(t, s, views(3, 2), middle())
				kept := joined(was, wholeIn(x.records, keep))
				state, blocks := store.Recall(kept)
				checkStore(t, opened(t, l), state, blocks...)
				checkLog(t, l, kept...)
			}
		}
	}
}

// checkAllLost asks for what answers ErrLost where the power is gone, and that
// it does nothing.
func checkAllLost(t *testing.T, s *store.Store, l *safe.Log) {
	t.Helper()
	size, was, blocks := l.Len(), s.State(), s.Blocks()
	for _, x := range []try{
		{x: views(8, 8)},
		{x: views(0, 0)},
		{x: views(8, 8), l: []api.Block{small(8, 8)}},
		{x: was, l: []api.Block{small(8, 8), middle()}},
	} {
		check(t, s.Save(x.x, x.l), api.ErrLost)
		checkStore(t, s, was, blocks...)
	}
	if again, e := store.Open(l); e != api.ErrLost || again != nil {
		t.Errorf("%v %d", again, e)
	}
	if l.Len() != size {
		t.Errorf("%d bytes, not %d", l.Len(), size)
	}
}

// Where a fuse lets all go well all is remembered, and the power goes behind.
func TestSaveWhereThePowerGoesBehind(t *testing.T) {
	for _, x := range tries() {
		s, l, was := before(t)
		l.Fuse(len(x.records) + 1)
		check(t, s.Save(x.x, x.l), api.OK)
		state, blocks := views(max(3, x.x.Voted), max(2, x.x.Locked)), append([]api.Block{middle()}, x.l...)
		checkStore(t, s, state, blocks...)
		check(t, l.Sync(), api.ErrLost)
		checkAllLost(t, s, l)
		checkStore(t, s, state, blocks...)
		l.Crash(0)
		checkLog(t, l, joined(was, x.records)...)
		checkStore(t, opened(t, l), state, blocks...)
	}
}

// Where the power was gone ahead of it.
func TestSaveWhereThePowerIsGone(t *testing.T) {
	for _, x := range tries() {
		s, l, was := before(t)
		l.Fuse(0)
		check(t, l.Append("x"), api.ErrLost)
		for range 2 {
			check(t, s.Save(x.x, x.l), api.ErrLost)
			checkStore(t, s, views(3, 2), middle())
		}
		l.Crash(-1)
		checkLog(t, l, was...)
		checkStore(t, opened(t, l), views(3, 2), middle())
	}
}

// What was lost may be saved again, by the memory that is opened then.
func TestSaveAgain(t *testing.T) {
	for _, x := range tries() {
		for fuse := range len(x.records) + 1 {
			for _, keep := range []int{0, 1, 5, 13, 17, 50, -1} {
				s, l, was := before(t)
				l.Fuse(fuse)
				check(t, s.Save(x.x, x.l), api.ErrLost)
				l.Crash(keep)
				s = opened(t, l)
				left, e := l.Records()
				check(t, e, api.OK)
				state, blocks := s.State(), s.Blocks()
				check(t, s.Save(x.x, x.l), api.OK)
				state = views(max(state.Voted, x.x.Voted), max(state.Locked, x.x.Locked))
				blocks = append(slices.Clone(blocks), x.l...)
				checkStore(t, s, state, blocks...)
				if len(left) < len(was) || !slices.Equal(left[:len(was)], was) {
					t.Fatalf("%q", left)
				}
				l.Crash(0)
				checkStore(t, opened(t, l), state, blocks...)
			}
		}
	}
}

// Where nothing of what was lost was kept the memory itself may go on.
func TestSaveByTheSameMemory(t *testing.T) {
	for _, x := range tries() {
		for fuse := range len(x.records) + 1 {
			s, l, was := before(t)
			l.Fuse(fuse)
			check(t, s.Save(x.x, x.l), api.ErrLost)
			l.Crash(0)
			check(t, s.Save(x.x, x.l), api.OK)
			checkLog(t, l, joined(was, x.records)...)
			state, blocks := views(max(3, x.x.Voted), max(2, x.x.Locked)), append([]api.Block{middle()}, x.l...)
			checkStore(t, s, state, blocks...)
			l.Crash(0)
			checkStore(t, opened(t, l), state, blocks...)
		}
	}
}

// Save cuts nothing: what a memory saves that wasn't opened again is behind the
// piece that a crash has left.
func TestSaveBehindAPiece(t *testing.T) {
	for keep := 1; keep < 13; keep++ {
		s, l, was := before(t)
		l.Fuse(1)
		check(t, s.Save(views(4, 2), nil), api.ErrLost)
		l.Crash(keep)
		size := l.Len()
		check(t, s.Save(views(5, 2), nil), api.OK)
		checkStore(t, s, views(5, 2), middle())
		if l.Len() != size+13 || size != len(laid(was...))+keep {
			t.Error(keep, l.Len(), size)
		}
	}
}
