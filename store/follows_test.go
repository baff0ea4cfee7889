package store_test

import (
	"math/rand/v2"
	"testing"

	"comitia/api"
	"comitia/rule"
	"comitia/safe"
	"comitia/store"
)

// A witness saves, and knows what was saved: what answered OK. Behind each
// crash it opens the memory again, and looks whether all of that is there.
type witness struct {
	t       *testing.T
	l       *safe.Log
	s       *store.Store
	state   rule.State  // of all that were saved both views' greatest
	blocks  []api.Block // that were saved
	tried   try         // the Save that was lost, if one was
	lost    bool
	crashes int
	pieces  int
	more    int
}

func witnessOf(t *testing.T) *witness {
	t.Helper()
	l := safe.New()
	return &witness{t: t, l: l, s: opened(t, l)}
}

func (w *witness) save(x rule.State, l []api.Block) {
	w.t.Helper()
	switch e := w.s.Save(x, l); e {
	case api.OK:
		w.state = views(max(w.state.Voted, x.Voted), max(w.state.Locked, x.Locked))
		w.blocks = append(w.blocks, l...)
	case api.ErrLost:
		if !w.lost {
			w.tried = try{x: x, l: l}
		}
		w.lost = true
	default:
		w.t.Fatal(e)
	}
	checkStore(w.t, w.s, w.state, w.blocks...)
}

// crash looks at what is remembered behind it: all that was saved, and of the
// Save that was lost a beginning of its blocks; of its state all or nothing,
// and that behind all of its blocks only.
func (w *witness) crash(keep int) {
	w.t.Helper()
	size := w.l.Len()
	w.l.Crash(keep)
	kept := w.l.Len()
	w.s = opened(w.t, w.l)
	x, l := w.s.State(), w.s.Blocks()
	if x.Voted < w.state.Voted || x.Locked < w.state.Locked {
		w.t.Fatalf("%v behind a crash, and %v was saved", x, w.state)
	}
	many := len(w.blocks)
	if len(l) < many || !sameBlocks(l[:many], w.blocks) {
		w.t.Fatalf("%s behind a crash, and %s was saved", brief(l), brief(w.blocks))
	}
	if behind := l[many:]; len(behind) > len(w.tried.l) || !sameBlocks(behind, w.tried.l[:len(behind)]) {
		w.t.Fatalf("%s behind a crash, and %s was tried", brief(behind), brief(w.tried.l))
	}
	both := views(max(w.state.Voted, w.tried.x.Voted), max(w.state.Locked, w.tried.x.Locked))
	if x != w.state && (x != both || len(l) < many+len(w.tried.l)) {
		w.t.Fatalf("%v behind a crash, %v was saved, %v tried", x, w.state, w.tried.x)
	}
	w.crashes++
	if w.l.Len() < kept {
		w.pieces++
	}
	if kept < size && (x != w.state || len(l) > many) {
		w.more++
	}
	// Whatever is there by now is safe.
	w.state, w.blocks, w.tried, w.lost = x, l, try{}, false
}

// Wherever the power goes in three Saves, however much is kept, and then once
// more in the same on what is left.
func TestEachCrash(t *testing.T) {
	saves := []try{
		{x: views(2, 1), l: []api.Block{small(1, 0), small(2, 1)}},
		{x: views(2, 1), l: []api.Block{small(3, 2)}},
		{x: views(1, 3)},
		{x: views(4, 0), l: []api.Block{small(3, 2), small(3, 2), small(4, 3)}},
		{x: views(0, 0)},
	}
	pieces, more := 0, 0
	for three := range len(saves) * len(saves) * len(saves) {
		l := []try{saves[three%5], saves[three/5%5], saves[three/25]}
		for fuse := -1; fuse < 12; fuse++ {
			for _, keep := range []int{0, 1, 4, 12, 13, 14, 40, 56, 57, 58, 70, 113, 114, 127, -1, -2, -13, -14} {
				w := witnessOf(t)
				for range 2 {
					w.l.Fuse(fuse)
					for _, x := range l {
						w.save(x.x, x.l)
					}
					w.crash(keep)
				}
				w.crash(0)
				pieces, more = pieces+w.pieces, more+w.more
			}
		}
	}
	if pieces < 1000 || more < 1000 {
		t.Errorf("%d with a piece, %d with more than was saved: that is no trial", pieces, more)
	}
}

// Each number of bytes that is kept of one Save.
func TestEachNumberOfBytes(t *testing.T) {
	for _, x := range tries() {
		whole := len(laid(x.records...))
		for fuse := range len(x.records) + 2 {
			for keep := range whole + 2 {
				w := witnessOf(t)
				w.save(views(3, 2), []api.Block{middle()})
				w.l.Fuse(fuse)
				w.save(x.x, x.l)
				if w.lost != (fuse <= len(x.records)) {
					t.Fatal(fuse, w.lost)
				}
				w.crash(keep)
			}
		}
	}
}

// Whatever is saved, wherever the power goes, however much is kept.
func TestWhateverIsSaved(t *testing.T) {
	r := rand.New(rand.NewPCG(11, 10))
	crashes, pieces, more := 0, 0, 0
	for range 200 {
		w := witnessOf(t)
		for range 60 {
			switch r.IntN(8) {
			case 0:
				w.l.Fuse(r.IntN(12) - 1)
			case 1:
				w.crash(r.IntN(1 << 20))
			case 2:
				if w.lost {
					w.crash(-r.IntN(300))
				}
			case 3:
				if !w.lost {
					w.s = opened(t, w.l)
				}
			default:
				x := someState(r, plainStore{voted: w.state.Voted, locked: w.state.Locked})
				w.save(views(within(x.Voted), within(x.Locked)), someBlocks(r))
			}
		}
		w.crash(r.IntN(1 << 20))
		crashes, pieces, more = crashes+w.crashes, pieces+w.pieces, more+w.more
	}
	if crashes < 1000 || pieces < 150 || more < 50 {
		t.Errorf("%d crashes, %d with a piece, %d with more than was saved: that is no trial", crashes, pieces, more)
	}
}

// within is the view that is nearest to a number.
func within(n int) int {
	return min(max(n, 0), api.MaxView)
}

// someBlocks are right ones, at random, some of them more than once.
func someBlocks(r *rand.Rand) []api.Block {
	all := menu()
	var l []api.Block
	for range r.IntN(4) {
		l = append(l, all[r.IntN(5)].b)
	}
	return l
}
