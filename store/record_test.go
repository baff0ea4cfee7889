package store_test

import (
	"fmt"
	"math"
	"slices"
	"strings"
	"testing"

	"comitia/api"
	"comitia/blake"
	"comitia/block"
	"comitia/cert"
	"comitia/rule"
	"comitia/safe"
	"comitia/store"
)

// most is the greatest number that has bytes of its own.
const most = 1<<31 - 1

// four are a number's bytes, made by hand.
func four(n uint32) string {
	return string([]byte{byte(n >> 24), byte(n >> 16), byte(n >> 8), byte(n)})
}

// laid are a log's bytes: records, one behind the other.
func laid(l ...string) string {
	var b strings.Builder
	for _, r := range l {
		b.WriteString(four(uint32(len(r))) + r)
	}
	return b.String()
}

func joined(lists ...[]string) []string {
	return slices.Concat(lists...)
}

// digest are 32 bytes that tell a number.
func digest(mark int) api.Hash {
	return strings.Repeat("d", 28) + four(uint32(mark))
}

func views(voted, locked int) rule.State {
	return rule.State{Voted: voted, Locked: locked}
}

// stateRecord is a state's record, made by hand.
func stateRecord(voted, locked uint32) string {
	return "S" + four(voted) + four(locked)
}

// small is a block without requests on a certificate without signatures.
func small(view, mark int) api.Block {
	return api.Block{View: view, Proposer: mark % 7, Justify: api.Cert{View: view - 1, Block: digest(mark)}}
}

// smallRecord is its record, made by hand.
func smallRecord(view, mark int) string {
	return "B" + four(uint32(view)) + four(uint32(mark%7)) + four(uint32(view-1)) + digest(mark) + four(0) + four(0)
}

// signed are signatures of so many nodes, with so many tags each.
func signed(nodes, tags int) []api.Sig {
	var l []api.Sig
	for from := range nodes {
		s := api.Sig{From: from}
		for to := range tags {
			s.Tags = append(s.Tags, strings.Repeat("t", 12)+four(uint32(from*100+to)))
		}
		l = append(l, s)
	}
	return l
}

// middle is a block that has some of all.
func middle() api.Block {
	return api.Block{View: 6, Proposer: 2, Justify: api.Cert{View: 5, Block: digest(5), Sigs: signed(3, 4)},
		Batch: []api.Request{{Client: 1, Seq: 1, Body: "a"}, {Client: 1, Seq: 2}, {Client: 2, Seq: 1, Body: "b"}}}
}

// greatestBlock is a block of which all is as great as it may be.
func greatestBlock() api.Block {
	r := api.Request{Client: 3, Seq: most, Body: strings.Repeat("b", 40)}
	return api.Block{View: api.MaxView, Proposer: 6, Justify: api.Cert{View: api.MaxView - 1, Block: strings.Repeat("\xff", 32), Sigs: signed(7, 7)},
		Batch: []api.Request{r, r, r}}
}

// rightBlocks are blocks that are right, at all edges.
func rightBlocks() map[string]api.Block {
	first := block.Make(1, 4, cert.First(), []api.Request{{Client: 1, Seq: 1}})
	of := func(change func(*api.Block)) api.Block {
		b := middle()
		change(&b)
		return b
	}
	return map[string]api.Block{
		"least":          {View: 1, Justify: api.Cert{Block: strings.Repeat("\x00", 32)}},
		"greatest":       greatestBlock(),
		"middle":         middle(),
		"first":          first,
		"small":          small(3, 3),
		"empty lists":    {View: 1, Justify: api.Cert{Block: digest(1), Sigs: []api.Sig{}}, Batch: []api.Request{}},
		"empty tags":     of(func(b *api.Block) { b.Justify.Sigs[1].Tags = []string{} }),
		"no tags":        of(func(b *api.Block) { b.Justify.Sigs = signed(7, 0) }),
		"a gap of nodes": of(func(b *api.Block) { b.Justify.Sigs[2].From = 6 }),
		"a gap of views": of(func(b *api.Block) { b.View = 1000 }),
		"one request":    of(func(b *api.Block) { b.Batch = b.Batch[:1] }),
		"one twice":      of(func(b *api.Block) { b.Batch[2] = b.Batch[0] }),
		"bytes of all kinds": of(func(b *api.Block) {
			b.Batch[1].Body = "\x00\xffS\x00\x00\x00\x01B é"
			b.Justify.Block = "SB\x00\xff" + strings.Repeat("\x80", 28)
		}),
	}
}

func sameSig(a, b api.Sig) bool {
	return a.From == b.From && slices.Equal(a.Tags, b.Tags)
}

func sameBlock(a, b api.Block) bool {
	return a.View == b.View && a.Proposer == b.Proposer &&
		a.Justify.View == b.Justify.View && a.Justify.Block == b.Justify.Block &&
		slices.EqualFunc(a.Justify.Sigs, b.Justify.Sigs, sameSig) && slices.Equal(a.Batch, b.Batch)
}

func sameBlocks(a, b []api.Block) bool {
	return slices.EqualFunc(a, b, sameBlock)
}

// brief tells blocks in short, each by its views and numbers, and a sum of its
// bytes.
func brief(l []api.Block) string {
	var all []string
	for _, b := range l {
		sum := blake.Sum(store.BlockRecord(b))
		all = append(all, fmt.Sprintf("%d on %d by %d, %d signatures, %d requests, %x", b.View, b.Justify.View, b.Proposer, len(b.Justify.Sigs), len(b.Batch), sum[:4]))
	}
	return "[" + strings.Join(all, "; ") + "]"
}

func check(t *testing.T, got, want api.Errno) {
	t.Helper()
	if got != want {
		t.Errorf("%d, not %d", got, want)
	}
}

// checkStore asks for what a memory remembers.
func checkStore(t *testing.T, s *store.Store, x rule.State, l ...api.Block) {
	t.Helper()
	if s.State() != x {
		t.Errorf("%v, not %v", s.State(), x)
	}
	if got := s.Blocks(); !sameBlocks(got, l) {
		t.Errorf("%s, not %s", brief(got), brief(l))
	}
}

// checkRecall asks for what records remember.
func checkRecall(t *testing.T, records []string, x rule.State, l ...api.Block) {
	t.Helper()
	state, blocks := store.Recall(records)
	if state != x || !sameBlocks(blocks, l) {
		t.Errorf("%d records: %v %s, not %v %s", len(records), state, brief(blocks), x, brief(l))
	}
}

// checkLog asks for a log's records, with no piece behind them.
func checkLog(t *testing.T, l *safe.Log, want ...string) {
	t.Helper()
	if r, e := l.Records(); e != api.OK || !slices.Equal(r, want) || l.Len() != len(laid(want...)) {
		t.Errorf("%q %d, %d bytes, not %q", r, e, l.Len(), want)
	}
}

func opened(t *testing.T, l *safe.Log) *store.Store {
	t.Helper()
	s, e := store.Open(l)
	if e != api.OK || s == nil {
		t.Fatal(s, e)
	}
	return s
}

// saved is a memory on a log of its own, to which that was saved.
func saved(t *testing.T, x rule.State, l ...api.Block) (*store.Store, *safe.Log) {
	t.Helper()
	log := safe.New()
	s := opened(t, log)
	check(t, s.Save(x, l), api.OK)
	return s, log
}

func TestRecord(t *testing.T) {
	for _, x := range []struct {
		s    rule.State
		want string
	}{
		{views(0, 0), "S\x00\x00\x00\x00\x00\x00\x00\x00"},
		{views(3, 2), "S\x00\x00\x00\x03\x00\x00\x00\x02"},
		{views(2, 3), "S\x00\x00\x00\x02\x00\x00\x00\x03"},
		{views(api.MaxView, api.MaxView), "S\x00\x0f\x42\x40\x00\x0f\x42\x40"},
		{views(0x01020304, 0x05060708), "S\x01\x02\x03\x04\x05\x06\x07\x08"},
		{views(-1, 7), "S\x00\x00\x00\x00\x00\x00\x00\x07"},
		{views(7, 1<<31), "S\x00\x00\x00\x07\x00\x00\x00\x00"},
		{views(math.MinInt, math.MaxInt), "S\x00\x00\x00\x00\x00\x00\x00\x00"},
	} {
		if got := store.Record(x.s); got != x.want || got != "S"+rule.Bytes(x.s) {
			t.Errorf("%v: %x, not %x", x.s, got, x.want)
		}
	}
}

func TestBlockRecord(t *testing.T) {
	b := api.Block{View: 3, Proposer: 2, Justify: api.Cert{View: 1, Block: digest(7), Sigs: []api.Sig{{From: 4, Tags: []string{strings.Repeat("t", 16)}}}},
		Batch: []api.Request{{Client: 1, Seq: 2, Body: "ab"}}}
	want := "B\x00\x00\x00\x03\x00\x00\x00\x02\x00\x00\x00\x01" + strings.Repeat("d", 28) + "\x00\x00\x00\x07" +
		"\x00\x00\x00\x01\x00\x00\x00\x04\x00\x00\x00\x01" + strings.Repeat("t", 16) +
		"\x00\x00\x00\x01\x00\x00\x00\x01\x00\x00\x00\x02\x00\x00\x00\x02ab"
	if got := store.BlockRecord(b); got != want {
		t.Errorf("%x, not %x", got, want)
	}
	for view := 1; view < 300; view++ {
		if got := store.BlockRecord(small(view, view)); got != smallRecord(view, view) {
			t.Errorf("%x, not %x", got, smallRecord(view, view))
		}
	}
	if got := store.BlockRecord(greatestBlock()); len(got) != 1+8+40+7*(8+7*16)+4+3*52 {
		t.Error(len(got))
	}
}

// What isn't right has a record, too.
func TestBlockRecordOfNoRightBlock(t *testing.T) {
	for _, x := range []struct {
		b    api.Block
		want string
	}{
		{api.Block{}, "B" + strings.Repeat("\x00", 20)},
		{api.Block{View: -1, Proposer: 9, Justify: api.Cert{View: most, Block: "short"}}, "B" + four(0) + four(9) + four(most) + "short" + four(0) + four(0)},
	} {
		if got := store.BlockRecord(x.b); got != x.want {
			t.Errorf("%x, not %x", got, x.want)
		}
	}
}

// A record is told to be what it is of.
func TestRecordsAreRecalled(t *testing.T) {
	for voted := range 40 {
		for locked := range 40 {
			checkRecall(t, []string{store.Record(views(voted, locked))}, views(voted, locked))
		}
	}
	for _, x := range []rule.State{views(api.MaxView, 0), views(0, api.MaxView), views(api.MaxView, api.MaxView), views(65536, 256)} {
		checkRecall(t, []string{store.Record(x)}, x)
	}
	for _, b := range rightBlocks() {
		checkRecall(t, []string{store.BlockRecord(b)}, views(0, 0), b)
	}
}
