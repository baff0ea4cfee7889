package store_test

import (
	"slices"
	"strings"
	"testing"

	"comitia/api"
	"comitia/rule"
	"comitia/safe"
	"comitia/store"
)

// spoil writes into all that a list of blocks has, and behind it.
func spoil(l []api.Block) {
	for i := range l {
		sigs := l[i].Justify.Sigs
		for j := range sigs {
			tags := sigs[j].Tags
			for k := range tags {
				tags[k] = "spoilt"
			}
			clear(tags[:cap(tags)])
		}
		clear(sigs[:cap(sigs)])
		clear(l[i].Batch[:cap(l[i].Batch)])
	}
	clear(l[:cap(l)])
}

// roomy is the middle block, each of its lists with spare room.
func roomy() api.Block {
	b := middle()
	b.Batch = append(make([]api.Request, 0, 9), b.Batch...)
	b.Justify.Sigs = append(make([]api.Sig, 0, 9), b.Justify.Sigs...)
	for i, s := range b.Justify.Sigs {
		b.Justify.Sigs[i].Tags = append(make([]string, 0, 9), s.Tags...)
	}
	return b
}

// What is handed in to Save isn't kept.
func TestSaveKeepsNothing(t *testing.T) {
	l := safe.New()
	s := opened(t, l)
	for range 3 {
		blocks := append(make([]api.Block, 0, 9), roomy(), greatestBlock(), roomy())
		check(t, s.Save(views(3, 2), blocks), api.OK)
		spoil(blocks)
	}
	want := slices.Repeat([]api.Block{middle(), greatestBlock(), middle()}, 3)
	checkStore(t, s, views(3, 2), want...)
	checkStore(t, opened(t, l), views(3, 2), want...)
}

// What is handed in to Save is left as it is, its spare room too.
func TestSaveLeavesWhatIsHandedIn(t *testing.T) {
	for _, fuse := range []int{0, 1, 2, 9} {
		for _, x := range []rule.State{views(3, 2), views(-1, 0)} {
			first := roomy()
			first.Batch = append(first.Batch, api.Request{Client: 9, Seq: 9, Body: "room"})[:3]
			first.Justify.Sigs = append(first.Justify.Sigs, api.Sig{From: 9})[:3]
			tags := append(first.Justify.Sigs[1].Tags, "room")
			first.Justify.Sigs[1].Tags = tags[:4]
			blocks := append(make([]api.Block, 0, 3), first, greatestBlock(), small(9, 9))[:2]
			l := safe.New()
			s := opened(t, l)
			l.Fuse(fuse)
			s.Save(x, blocks)
			if !sameBlocks(blocks[:3], []api.Block{middle(), greatestBlock(), small(9, 9)}) {
				t.Error(brief(blocks))
			}
			if r := first.Batch[:4][3]; r != (api.Request{Client: 9, Seq: 9, Body: "room"}) || first.Justify.Sigs[:4][3].From != 9 || tags[4] != "room" {
				t.Error(first, tags)
			}
		}
	}
}

// What Blocks answers is new memory, each time and each block of it.
func TestBlocksAreNewMemory(t *testing.T) {
	was := []api.Block{middle(), middle(), greatestBlock(), middle()}
	s, l := saved(t, views(3, 2), was...)
	for _, s := range []*store.Store{s, opened(t, l)} {
		first, second := s.Blocks(), s.Blocks()
		spoil(first)
		if !sameBlocks(second, was) {
			t.Error(brief(second))
		}
		checkStore(t, s, views(3, 2), was...)
		spoil(second[:1:1])
		if !sameBlocks(second[1:], was[1:]) {
			t.Error(brief(second))
		}
		third := s.Blocks()
		check(t, s.Save(views(3, 2), third[:2]), api.OK)
		spoil(third)
		checkStore(t, s, views(3, 2), joinedBlocks(was, was[:2])...)
	}
}

// A list that was answered stays as it is, and one that grows goes on for
// itself.
func TestBlocksStay(t *testing.T) {
	s, _ := saved(t, views(3, 2), middle())
	was := s.Blocks()
	check(t, s.Save(views(4, 2), []api.Block{small(5, 5)}), api.OK)
	now := s.Blocks()
	was = append(was, small(8, 8), small(9, 9))
	check(t, s.Save(views(4, 2), []api.Block{small(6, 6)}), api.OK)
	if !sameBlocks(was, []api.Block{middle(), small(8, 8), small(9, 9)}) || !sameBlocks(now, []api.Block{middle(), small(5, 5)}) {
		t.Error(brief(was), brief(now))
	}
	checkStore(t, s, views(4, 2), middle(), small(5, 5), small(6, 6))
}

// What Recall answers is new memory, also of a record that is there twice.
func TestRecallIsNewMemory(t *testing.T) {
	r := store.BlockRecord(middle())
	records := []string{r, r, stateRecord(3, 2), store.BlockRecord(greatestBlock())}
	_, first := store.Recall(records)
	_, second := store.Recall(records)
	spoil(first[:1:1])
	if !sameBlocks(first[1:], []api.Block{middle(), greatestBlock()}) {
		t.Error(brief(first))
	}
	spoil(first)
	if !sameBlocks(second, []api.Block{middle(), middle(), greatestBlock()}) {
		t.Error(brief(second))
	}
	checkRecall(t, records, views(3, 2), middle(), middle(), greatestBlock())
}

// A list of records that was handed in isn't kept, nor is what it was made of.
func TestRecallKeepsNothing(t *testing.T) {
	bytes := []byte(store.BlockRecord(middle()))
	records := []string{string(bytes), stateRecord(3, 2)}
	x, l := store.Recall(records)
	clear(records)
	clear(bytes)
	if x != views(3, 2) || !sameBlocks(l, []api.Block{middle()}) {
		t.Error(x, brief(l))
	}
}

// Two memories on two logs don't hang on one another.
func TestTwoMemories(t *testing.T) {
	text := laid(stateRecord(3, 2), smallRecord(4, 4))
	for name, two := range map[string]func() (*safe.Log, *safe.Log, rule.State, []api.Block){
		"new": func() (*safe.Log, *safe.Log, rule.State, []api.Block) {
			return safe.New(), safe.New(), views(0, 0), nil
		},
		"of one text": func() (*safe.Log, *safe.Log, rule.State, []api.Block) {
			return safe.Of(text), safe.Of(text), views(3, 2), []api.Block{small(4, 4)}
		},
	} {
		la, lb, x, l := two()
		a, b := opened(t, la), opened(t, lb)
		if a == b {
			t.Fatal(name, "one memory")
		}
		was, e := lb.Records()
		check(t, e, api.OK)
		check(t, a.Save(views(7, 1), []api.Block{middle()}), api.OK)
		checkStore(t, b, x, l...)
		checkLog(t, lb, was...)
		la.Fuse(0)
		check(t, a.Save(views(8, 1), nil), api.ErrLost)
		check(t, b.Save(views(1, 7), []api.Block{small(6, 6)}), api.OK)
		checkStore(t, a, views(7, max(1, x.Locked)), joinedBlocks(l, []api.Block{middle()})...)
		checkStore(t, b, views(max(1, x.Voted), 7), joinedBlocks(l, []api.Block{small(6, 6)})...)
		la.Crash(0)
		lb.Crash(0)
		checkStore(t, opened(t, la), views(7, max(1, x.Locked)), joinedBlocks(l, []api.Block{middle()})...)
		checkStore(t, opened(t, lb), views(max(1, x.Voted), 7), joinedBlocks(l, []api.Block{small(6, 6)})...)
	}
}

// Two memories on one log share it, but what one saves the other one doesn't
// remember till it is opened again.
func TestTwoMemoriesOnOneLog(t *testing.T) {
	l := safe.New()
	a, b := opened(t, l), opened(t, l)
	check(t, a.Save(views(5, 1), []api.Block{small(4, 4)}), api.OK)
	checkStore(t, b, views(0, 0))
	check(t, b.Save(views(0, 0), nil), api.OK)
	checkLog(t, l, smallRecord(4, 4), stateRecord(5, 1))
	check(t, b.Save(views(5, 1), []api.Block{small(6, 6)}), api.OK)
	checkStore(t, a, views(5, 1), small(4, 4))
	checkStore(t, b, views(5, 1), small(6, 6))
	check(t, b.Save(views(2, 3), nil), api.OK)
	checkStore(t, a, views(5, 1), small(4, 4))
	l.Crash(0)
	checkLog(t, l, smallRecord(4, 4), stateRecord(5, 1), smallRecord(6, 6), stateRecord(5, 1), stateRecord(2, 3))
	checkStore(t, opened(t, l), views(5, 3), small(4, 4), small(6, 6))
}

// What a memory tells changes nothing, neither of it nor of its log.
func TestTellingChangesNothing(t *testing.T) {
	s, l := saved(t, views(3, 2), middle())
	check(t, l.Append(strings.Repeat("w", 9)), api.OK)
	l.Fuse(1)
	for range 5 {
		checkStore(t, s, views(3, 2), middle())
	}
	check(t, l.Sync(), api.OK)
	check(t, l.Sync(), api.ErrLost)
	checkStore(t, s, views(3, 2), middle())
}
