package store_test

import (
	"slices"
	"strings"
	"testing"

	"comitia/api"
	"comitia/safe"
	"comitia/store"
)

func TestOpenOfNoRecords(t *testing.T) {
	for _, l := range []*safe.Log{safe.New(), safe.Of(""), new(safe.Log)} {
		checkStore(t, opened(t, l), views(0, 0))
		checkLog(t, l)
	}
}

// What a log remembers is told.
func TestOpen(t *testing.T) {
	for _, x := range []struct {
		records []string
		voted   int
		locked  int
		blocks  []api.Block
	}{
		{[]string{stateRecord(0, 0)}, 0, 0, nil},
		{[]string{stateRecord(3, 2)}, 3, 2, nil},
		{[]string{stateRecord(api.MaxView, api.MaxView)}, api.MaxView, api.MaxView, nil},
		{[]string{stateRecord(9, 1), stateRecord(1, 9)}, 9, 9, nil},
		{[]string{smallRecord(3, 3)}, 0, 0, []api.Block{small(3, 3)}},
		{[]string{smallRecord(4, 4), smallRecord(3, 3), smallRecord(4, 4)}, 0, 0, []api.Block{small(4, 4), small(3, 3), small(4, 4)}},
		{[]string{smallRecord(4, 4), stateRecord(3, 2), store.BlockRecord(greatestBlock())}, 3, 2, []api.Block{small(4, 4), greatestBlock()}},
	} {
		l := safe.Of(laid(x.records...))
		checkStore(t, opened(t, l), views(x.voted, x.locked), x.blocks...)
		checkLog(t, l, x.records...)
	}
}

// A log opened again, by one that was opened before or not, is told alike.
func TestOpenAgain(t *testing.T) {
	records := []string{smallRecord(4, 4), stateRecord(3, 2), smallRecord(3, 3)}
	l := safe.Of(laid(records...) + "\x00\x00\x00\x09S")
	for range 4 {
		checkStore(t, opened(t, l), views(3, 2), small(4, 4), small(3, 3))
		checkLog(t, l, records...)
	}
	s := opened(t, l)
	check(t, s.Save(views(4, 2), []api.Block{small(5, 5)}), api.OK)
	for range 3 {
		checkStore(t, opened(t, l), views(4, 2), small(4, 4), small(3, 3), small(5, 5))
	}
	l.Crash(0)
	checkStore(t, opened(t, l), views(4, 2), small(4, 4), small(3, 3), small(5, 5))
	checkLog(t, l, joined(records, []string{smallRecord(5, 5), stateRecord(4, 2)})...)
}

// A log that ends in a piece is cut, wherever it was torn.
func TestOpenOfAPiece(t *testing.T) {
	records := []string{smallRecord(4, 4), stateRecord(3, 2), smallRecord(3, 3), stateRecord(2, 5)}
	whole := laid(records...)
	for size := range len(whole) + 1 {
		left := 0
		for left < len(records) && len(laid(records[:left+1]...)) <= size {
			left++
		}
		l := safe.Of(whole[:size])
		s := opened(t, l)
		checkLog(t, l, records[:left]...)
		x, blocks := [5][2]int{{}, {}, {3, 2}, {3, 2}, {3, 5}}[left], []api.Block{small(4, 4), small(3, 3)}[:(left+1)/2]
		checkStore(t, s, views(x[0], x[1]), blocks...)
		// What is saved then is behind the records, not behind a piece.
		check(t, s.Save(views(7, 1), []api.Block{middle()}), api.OK)
		l.Crash(0)
		again := opened(t, l)
		checkStore(t, again, views(7, max(x[1], 1)), append(slices.Clone(blocks), middle())...)
	}
}

// Pieces of all kinds.
func TestOpenOfOtherPieces(t *testing.T) {
	records := []string{smallRecord(4, 4), stateRecord(3, 2)}
	for _, piece := range []string{"\x00", "S", "\x00\x00\x00\x00", four(4001) + strings.Repeat("x", 4001), four(0) + laid(stateRecord(9, 9)), "\xff\xff\xff\xff" + laid(stateRecord(9, 9)), stateRecord(9, 9), four(10) + stateRecord(9, 9)} {
		l := safe.Of(laid(records...) + piece)
		checkStore(t, opened(t, l), views(3, 2), small(4, 4))
		checkLog(t, l, records...)
	}
}

// A record that is neither ends what is remembered, but isn't a piece: the log
// keeps it, and what is behind it.
func TestOpenOfNoRecord(t *testing.T) {
	for what, wrong := range noRecords() {
		if wrong == "" {
			continue // no log has such a record
		}
		for _, piece := range []string{"", "\x00\x00\x00\x09S"} {
			records := []string{smallRecord(4, 4), stateRecord(3, 2), wrong, stateRecord(9, 9), smallRecord(9, 9)}
			l := safe.Of(laid(records...) + piece)
			t.Run(what, func(t *testing.T) {
				checkStore(t, opened(t, l), views(3, 2), small(4, 4))
				checkLog(t, l, records...)
			})
		}
	}
}

// Open neither appends nor syncs: a fuse is as it was, and what waits waits.
func TestOpenAppendsNothing(t *testing.T) {
	for fuse := range 4 {
		l := safe.Of(laid(stateRecord(3, 2)))
		l.Append(smallRecord(4, 4))
		l.Fuse(fuse)
		for range 3 {
			checkStore(t, opened(t, l), views(3, 2), small(4, 4))
		}
		for range fuse {
			check(t, l.Append("x"), api.OK)
		}
		check(t, l.Append("x"), api.ErrLost)
		l.Crash(0)
		checkLog(t, l, stateRecord(3, 2))
		checkStore(t, opened(t, l), views(3, 2))
	}
}

// Where the power is gone there is no memory, and nothing is done.
func TestOpenWhereThePowerIsGone(t *testing.T) {
	for _, b := range []string{"", laid(stateRecord(3, 2)), laid(stateRecord(3, 2)) + "\x00\x00\x00\x09S"} {
		l := safe.Of(b)
		l.Fuse(0)
		check(t, l.Sync(), api.ErrLost)
		for range 3 {
			if s, e := store.Open(l); e != api.ErrLost || s != nil {
				t.Errorf("%v %d", s, e)
			}
			if l.Len() != len(b) {
				t.Errorf("%d bytes, not %d", l.Len(), len(b))
			}
		}
		l.Crash(0)
		if l.Len() != len(b) {
			t.Errorf("%d bytes, not %d", l.Len(), len(b))
		}
		opened(t, l)
	}
}
