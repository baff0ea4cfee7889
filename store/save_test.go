package store_test

import (
	"fmt"
	"slices"
	"testing"

	"comitia/api"
	"comitia/block"
	"comitia/cert"
	"comitia/rule"
	"comitia/safe"
	"comitia/store"
)

// The chapter's example: Save, crash, Open: it is there.
func TestSaveCrashOpen(t *testing.T) {
	a := block.Make(1, 4, cert.First(), []api.Request{{Client: 1, Seq: 1, Body: "a"}})
	b := block.Make(2, 4, cert.Make(1, block.Digest(a), signed(3, 4)), nil)
	for keep := -3; keep <= 3; keep++ {
		s, l := saved(t, views(2, 1), a, b)
		checkStore(t, s, views(2, 1), a, b)
		l.Crash(keep)
		checkStore(t, opened(t, l), views(2, 1), a, b)
		checkStore(t, s, views(2, 1), a, b)
	}
}

// The blocks' records come first, in order, and the state's one behind them.
func TestSaveAppends(t *testing.T) {
	l := safe.New()
	s := opened(t, l)
	check(t, s.Save(views(3, 2), []api.Block{small(5, 5), small(4, 4)}), api.OK)
	want := []string{smallRecord(5, 5), smallRecord(4, 4), stateRecord(3, 2)}
	checkLog(t, l, want...)
	checkStore(t, s, views(3, 2), small(5, 5), small(4, 4))

	check(t, s.Save(views(4, 2), nil), api.OK)
	want = append(want, stateRecord(4, 2))
	checkLog(t, l, want...)
	checkStore(t, s, views(4, 2), small(5, 5), small(4, 4))

	check(t, s.Save(views(4, 2), []api.Block{small(6, 6)}), api.OK)
	want = append(want, smallRecord(6, 6))
	checkLog(t, l, want...)
	checkStore(t, s, views(4, 2), small(5, 5), small(4, 4), small(6, 6))

	check(t, s.Save(views(4, 3), []api.Block{small(7, 7)}), api.OK)
	want = append(want, smallRecord(7, 7), stateRecord(4, 3))
	checkLog(t, l, want...)
	checkStore(t, s, views(4, 3), small(5, 5), small(4, 4), small(6, 6), small(7, 7))

	l.Crash(0)
	checkLog(t, l, want...)
	checkStore(t, opened(t, l), views(4, 3), small(5, 5), small(4, 4), small(6, 6), small(7, 7))
}

// Of the state that is remembered, and of no blocks, nothing is appended, and
// nothing synced.
func TestSaveOfNothing(t *testing.T) {
	for _, blocks := range [][]api.Block{nil, {}} {
		for _, x := range []rule.State{views(0, 0), views(3, 2), views(0, 7), views(api.MaxView, api.MaxView)} {
			s, l := saved(t, x)
			size := l.Len()
			check(t, l.Append("waits"), api.OK)
			l.Fuse(0)
			for range 3 {
				check(t, s.Save(x, blocks), api.OK)
			}
			if l.Len() != size+9 {
				t.Error(l.Len(), size)
			}
			check(t, l.Sync(), api.ErrLost)
			l.Crash(0)
			if l.Len() != size {
				t.Error("synced", l.Len(), size)
			}
			checkStore(t, s, x)
		}
	}
	s, l := saved(t, views(0, 0))
	checkLog(t, l)
	checkStore(t, s, views(0, 0))
}

// What is remembered of an opened log isn't appended again.
func TestSaveOfNothingBehindOpen(t *testing.T) {
	l := safe.Of(laid(stateRecord(9, 1), smallRecord(4, 4), stateRecord(1, 8)))
	s := opened(t, l)
	l.Fuse(0)
	check(t, s.Save(views(9, 8), nil), api.OK)
	check(t, l.Sync(), api.ErrLost)
	l.Crash(0)
	checkLog(t, l, stateRecord(9, 1), smallRecord(4, 4), stateRecord(1, 8))
}

// It is the state as a whole that counts, against the greatest views: one that
// was saved before, but isn't these, is appended again.
func TestSaveOfStates(t *testing.T) {
	l := safe.New()
	s := opened(t, l)
	var want []string
	was := rule.State{}
	for i, x := range []struct {
		voted, locked int
		remembered    rule.State
	}{
		{0, 0, views(0, 0)},
		{5, 1, views(5, 1)},
		{5, 1, views(5, 1)},
		{1, 5, views(5, 5)}, // one above, the other below
		{1, 5, views(5, 5)},
		{5, 1, views(5, 5)},
		{5, 5, views(5, 5)},
		{7, 3, views(7, 5)},
		{3, 7, views(7, 7)},
		{2, 2, views(7, 7)}, // both below
		{0, 0, views(7, 7)},
		{7, 0, views(7, 7)},
		{0, 7, views(7, 7)},
		{7, 6, views(7, 7)},
		{6, 7, views(7, 7)},
		{7, 7, views(7, 7)},
		{8, 7, views(8, 7)},
		{8, 8, views(8, 8)},
		{api.MaxView, 8, views(api.MaxView, 8)},
		{8, api.MaxView, views(api.MaxView, api.MaxView)},
		{api.MaxView, api.MaxView, views(api.MaxView, api.MaxView)},
		{0, 0, views(api.MaxView, api.MaxView)},
	} {
		check(t, s.Save(views(x.voted, x.locked), nil), api.OK)
		if was != views(x.voted, x.locked) {
			want = append(want, stateRecord(uint32(x.voted), uint32(x.locked)))
		}
		was = x.remembered
		t.Run(fmt.Sprint(i), func(t *testing.T) {
			checkLog(t, l, want...)
			checkStore(t, s, x.remembered)
			l.Crash(i)
			checkLog(t, l, want...)
			checkStore(t, opened(t, l), x.remembered)
		})
	}
}

// Views of 0 and of 1000000, on one another.
func TestSaveOfTheEnds(t *testing.T) {
	ends := []int{0, 1, api.MaxView - 1, api.MaxView}
	for _, a := range ends {
		for _, b := range ends {
			for _, c := range ends {
				for _, d := range ends {
					s, l := saved(t, views(a, b))
					check(t, s.Save(views(c, d), nil), api.OK)
					checkStore(t, s, views(max(a, c), max(b, d)))
					l.Crash(0)
					checkStore(t, opened(t, l), views(max(a, c), max(b, d)))
				}
			}
		}
	}
}

// Each right block alone, beside each other one, and all at once.
func TestSaveOfRightBlocks(t *testing.T) {
	all := rightBlocks()
	var many []api.Block
	for what, b := range all {
		s, l := saved(t, views(1, 0), b)
		checkLog(t, l, store.BlockRecord(b), stateRecord(1, 0))
		t.Run(what, func(t *testing.T) {
			checkStore(t, s, views(1, 0), b)
			l.Crash(0)
			checkStore(t, opened(t, l), views(1, 0), b)
		})
		for _, other := range all {
			s, _ := saved(t, views(0, 0), other, b)
			checkStore(t, s, views(0, 0), other, b)
		}
		many = append(many, b)
	}
	s, l := saved(t, views(0, 0), many...)
	checkStore(t, s, views(0, 0), many...)
	check(t, s.Save(views(0, 0), many), api.OK)
	l.Crash(0)
	checkStore(t, opened(t, l), views(0, 0), joinedBlocks(many, many)...)
}

func joinedBlocks(lists ...[]api.Block) []api.Block {
	return slices.Concat(lists...)
}

// A block that is there already is there once more.
func TestSaveOfTheSameBlock(t *testing.T) {
	b, other := middle(), small(6, 6)
	s, l := saved(t, views(2, 1), b, b)
	checkLog(t, l, store.BlockRecord(b), store.BlockRecord(b), stateRecord(2, 1))
	checkStore(t, s, views(2, 1), b, b)
	check(t, s.Save(views(2, 1), []api.Block{other, b}), api.OK)
	check(t, s.Save(views(2, 1), []api.Block{b}), api.OK)
	checkStore(t, s, views(2, 1), b, b, other, b, b)
	checkLog(t, l, store.BlockRecord(b), store.BlockRecord(b), stateRecord(2, 1), store.BlockRecord(other), store.BlockRecord(b), store.BlockRecord(b))
	l.Crash(0)
	checkStore(t, opened(t, l), views(2, 1), b, b, other, b, b)
	// Of other signatures it is another one, though it has the same digest.
	fewer := middle()
	fewer.Justify.Sigs = fewer.Justify.Sigs[:1]
	s, l = saved(t, views(0, 0), b, fewer, b)
	checkStore(t, s, views(0, 0), b, fewer, b)
	l.Crash(0)
	checkStore(t, opened(t, l), views(0, 0), b, fewer, b)
}

// Each record is one call of the log, and behind them is one sync.
func TestSaveCalls(t *testing.T) {
	for many := range 6 {
		for _, x := range []rule.State{views(3, 2), views(4, 2), views(1, 1)} {
			calls := many
			if x != views(3, 2) {
				calls++
			}
			if calls > 0 {
				calls++
			}
			var l []api.Block
			for i := range many {
				l = append(l, small(4+i, i))
			}
			for fuse := range 10 {
				s, log := saved(t, views(3, 2))
				log.Fuse(fuse)
				if e := s.Save(x, l); (e == api.OK) != (fuse >= calls) || e != api.OK && e != api.ErrLost {
					t.Errorf("%v, %d blocks, a fuse of %d: %d", x, many, fuse, e)
				}
				if fuse < calls {
					continue
				}
				for range fuse - calls {
					check(t, log.Sync(), api.OK)
				}
				check(t, log.Sync(), api.ErrLost)
			}
		}
	}
}

// What waits in the log already is made safe with what is saved.
func TestSaveBehindWhatWaits(t *testing.T) {
	l := safe.Of(laid(stateRecord(1, 1)))
	check(t, l.Append(smallRecord(4, 4)), api.OK)
	check(t, l.Append(stateRecord(5, 2)), api.OK)
	s := opened(t, l)
	checkStore(t, s, views(5, 2), small(4, 4))
	check(t, s.Save(views(6, 2), []api.Block{small(5, 5)}), api.OK)
	l.Crash(0)
	checkLog(t, l, stateRecord(1, 1), smallRecord(4, 4), stateRecord(5, 2), smallRecord(5, 5), stateRecord(6, 2))
	checkStore(t, opened(t, l), views(6, 2), small(4, 4), small(5, 5))
}

// Very many.
func TestSaveOfMany(t *testing.T) {
	l := safe.New()
	s := opened(t, l)
	var all []api.Block
	for i := range 3000 {
		b := small(i+1, i)
		all = append(all, b)
		check(t, s.Save(views(i/2, i/3), []api.Block{b}), api.OK)
	}
	checkStore(t, s, views(1499, 999), all...)
	check(t, s.Save(views(0, 0), all), api.OK)
	l.Crash(0)
	checkStore(t, opened(t, l), views(1499, 999), joinedBlocks(all, all)...)
}

// A memory that Open hasn't made answers, as a new one does.
func TestZero(t *testing.T) {
	s := new(store.Store)
	checkStore(t, s, views(0, 0))
	check(t, s.Save(views(0, 0), nil), api.OK)
	check(t, s.Save(views(-1, 0), nil), api.ErrForm)
	check(t, s.Save(views(3, 2), []api.Block{middle()}), api.OK)
	check(t, s.Save(views(2, 4), []api.Block{small(4, 4)}), api.OK)
	checkStore(t, s, views(3, 4), middle(), small(4, 4))
}
