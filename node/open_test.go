package node_test

import (
	"fmt"
	"math"
	"math/rand/v2"
	"slices"
	"testing"

	"comitia/api"
	"comitia/block"
	"comitia/cert"
	"comitia/node"
	"comitia/rule"
	"comitia/safe"
	"comitia/store"
	"comitia/wire"
)

// lostLog is a log whose power is gone.
func lostLog() *safe.Log {
	l := safe.New()
	l.Fuse(0)
	l.Sync()
	return l
}

func TestOpenArgs(t *testing.T) {
	numbers := []int{math.MinInt, -1 << 32, -1, 0, 1, 2, 3, 4, 5, 6, 7, 8, 9, 1 << 32, 1<<32 + 1, math.MaxInt}
	for _, n := range numbers {
		for _, id := range numbers {
			there := n >= 1 && n <= 7 && id >= 0 && id < n
			for lost, l := range map[bool]*safe.Log{false: safe.New(), true: lostLog()} {
				x, e := node.Open(seed, id, n, l)
				want := api.ErrArg
				if there {
					want = api.OK
				}
				if there && lost {
					want = api.ErrLost
				}
				if e != want || (x != nil) != (e == api.OK) {
					t.Errorf("%d of %d, lost %t: %v, %d, not %d", id, n, lost, x != nil, e, want)
				}
			}
		}
	}
}

// Where it answers an error it leaves the log as it is: only one that opens is
// cut.
func TestOpenArgsChangesNothing(t *testing.T) {
	b := logOf(rule.State{Voted: 1}, chain(4, 1)...) + "piece"
	for _, args := range [][2]int{{0, 0}, {4, 4}, {-1, 4}, {0, 8}} {
		l := safe.Of(b)
		if _, e := node.Open(seed, args[0], args[1], l); e != api.ErrArg || l.Len() != len(b) {
			t.Error(args, e, l.Len())
		}
	}
	l := safe.Of(b)
	if _, e := node.Open(seed, 0, 4, l); e != api.OK || l.Len() != len(b)-5 {
		t.Error(e, l.Len())
	}
}

// A new node is in the first view, and has nothing.
func TestOpenNew(t *testing.T) {
	for n := range api.MaxNodes {
		for id := range n + 1 {
			x := newTwin(t, id, n+1)
			x.is(1, 0, rule.State{}, 0, 0, 0)
			if h := x.High(); wire.Cert(h) != wire.Cert(cert.First()) || x.Dead() || x.log.Len() != 0 {
				t.Error(h, x.Dead(), x.log.Len())
			}
		}
	}
}

// logOf are the bytes of a log that remembers blocks, and behind them a state.
func logOf(s rule.State, l ...api.Block) string {
	var records []string
	for _, b := range l {
		records = append(records, store.BlockRecord(b))
	}
	return recorded(append(records, store.Record(s))...)
}

// The timer is at the greater one of Voted and of the view behind the highest
// certificate's.
func TestOpenTimer(t *testing.T) {
	l := chain(4, 1, 2, 5)
	for voted, view := range map[int]int{0: 3, 1: 3, 2: 3, 3: 3, 4: 4, 5: 5, 9: 9, api.MaxView - 1: api.MaxView - 1, api.MaxView: api.MaxView} {
		x := openTwin(t, 2, 4, logOf(rule.State{Voted: voted}, l...))
		// The last block's certificate, of the view 2, is the highest one.
		x.is(view, 2, rule.State{Voted: voted, Locked: 1}, 0, 0, 0)
		if got := x.stand(l...); len(got) != 3 {
			t.Error(voted, len(got))
		}
		// A view's whole span is left.
		x.ticks(3)
		x.is(view, 2, rule.State{Voted: voted, Locked: 1}, 0, 0, 0)
		x.ticks(1)
		x.is(view+1, 2, rule.State{Voted: voted, Locked: 1}, 0, 0, 0)
	}
}

// What was learned is in the state, if it is above what is remembered.
func TestOpenState(t *testing.T) {
	l := chain(4, 1, 3, 4, 6, 7)
	for locked, want := range map[int]int{0: 4, 3: 4, 4: 4, 5: 5, 800: 800} {
		x := openTwin(t, 0, 4, logOf(rule.State{Voted: 2, Locked: locked}, l...))
		x.is(7, 6, rule.State{Voted: 2, Locked: want}, 0, 0, 0)
	}
	x := openTwin(t, 0, 4, recorded(store.Record(rule.State{Voted: 9, Locked: 2}), store.Record(rule.State{Voted: 3, Locked: 7})))
	x.is(9, 0, rule.State{Voted: 9, Locked: 7}, 0, 0, 0)
}

// What was committed is committed again, but nobody is answered for it.
func TestOpenCommits(t *testing.T) {
	l := chain(4, 1, 2, 3, 4, 5, 8)
	x := openTwin(t, 1, 4, logOf(rule.State{Voted: 5}, l...))
	x.is(6, 5, rule.State{Voted: 5, Locked: 4}, 3, 3, 0)
	if got := x.Committed(); !slices.Equal(got, digests(l[:3]...)) {
		t.Errorf("%x", got)
	}
	want := []api.Request{l[0].Batch[0], l[1].Batch[0], l[2].Batch[0]}
	if got := x.Entries(); !slices.Equal(got, want) {
		t.Error(got)
	}
	if got := x.stand(l...); len(got) != 6 {
		t.Error(len(got))
	}
	// Who asks again is answered.
	if got := x.ask(want[1], api.OK); len(got) != 1 || got[0].Kind != api.Answer || got[0].Index != 1 {
		t.Error(names(got))
	}
}

// A block that doesn't stand when its turn comes isn't learned of, also if it
// stands behind that.
func TestOpenOrphans(t *testing.T) {
	l := chain(4, 1, 2, 3, 4)
	x := openTwin(t, 1, 4, logOf(rule.State{}, l[0], l[2], l[1]))
	x.is(2, 1, rule.State{}, 0, 0, 0)
	if got := x.stand(l...); len(got) != 3 {
		t.Error(len(got))
	}
	// What stands isn't newly there: nothing comes of being found again.
	x.nothing(func() []api.Msg { return x.handle(finds(0, 1, l[2])) })
	x.handle(finds(0, 1, l[3]))
	x.is(4, 3, rule.State{Locked: 2}, 1, 1, 0)
}

// A block that is remembered twice is learned of twice, which is all one.
func TestOpenTwice(t *testing.T) {
	l := chain(7, 1, 2, 3)
	x := openTwin(t, 6, 7, logOf(rule.State{}, l[0], l[1], l[1], l[0], l[2], l[2]))
	x.is(3, 2, rule.State{Locked: 1}, 0, 0, 0)
}

// Certificates that don't hold aren't learned, though their blocks stand.
func TestOpenOfAnother(t *testing.T) {
	l := chain(4, 1, 2, 3, 4)
	b := logOf(rule.State{Voted: 2}, l...)
	x, e := node.Open("another seed", 0, 4, safe.Of(b))
	if e != api.OK || x.View() != 2 || x.High().View != 0 || len(x.Committed()) != 0 || x.State() != (rule.State{Voted: 2}) {
		t.Error(e, x.View(), x.High())
	}
	for _, m := range found(0, 0, l...) {
		m.Kind, m.Hash = api.Fetch, block.Digest(m.Block)
		x.Handle(m)
	}
	if got := x.Send(); len(of(api.Found, got)) != 4 {
		t.Error(names(got))
	}
	// Of five nodes these votes are no quorum.
	x, e = node.Open(seed, 0, 5, safe.Of(b))
	if e != api.OK || x.View() != 2 || x.High().View != 0 {
		t.Error(e, x.View(), x.High())
	}
	y := openTwin(t, 3, 4, logOf(rule.State{}, l[0], on(4, l[0], 2), broken(3, on(4, l[0], 3))))
	y.is(2, 1, rule.State{}, 0, 0, 0)
}

// broken is a block of whose certificate no signature holds for the node.
func broken(id int, b api.Block) api.Block {
	for _, s := range b.Justify.Sigs {
		s.Tags[id] = "0123456789abcdef"
	}
	return b
}

// Wrong bytes, and what is behind them, are nothing.
func TestOpenWrongBytes(t *testing.T) {
	l := chain(4, 1, 2, 3, 4, 5)
	right := logOf(rule.State{Voted: 1}, l[:2]...)
	behind := logOf(rule.State{Voted: 9}, l[2:]...)
	for _, wrong := range []string{"\x00", "\x00\x00\x00", "\x00\x00\x00\x00", "\x00\x00\x10\x00", "\xff\xff\xff\xff", "\x00\x00\x0f\xa1" + string(make([]byte, 5000))} {
		x := openTwin(t, 0, 4, right+wrong)
		x.is(2, 1, rule.State{Voted: 1}, 0, 0, 0)
		if x.log.Len() != len(right) {
			t.Errorf("%x: %d bytes are left, not %d", wrong[:1], x.log.Len(), len(right))
		}
	}
	for _, record := range []string{"?", "S", "B", "s12345678", "S\x00\x0f\x42\x41\x00\x00\x00\x00", "B" + wire.Block(l[2])[1:]} {
		x := openTwin(t, 0, 4, right+recorded(record)+behind)
		x.is(2, 1, rule.State{Voted: 1}, 0, 0, 0)
	}
	r := rand.New(rand.NewPCG(18, 3))
	for range 200 {
		b := make([]byte, r.IntN(60))
		for i := range b {
			b[i] = byte(r.IntN(3) * r.IntN(256))
		}
		openTwin(t, r.IntN(4), 4, string(b))
		openTwin(t, r.IntN(4), 4, right+string(b))
	}
}

// nodesLog is what a node writes while it takes part in something, and the
// blocks that were proposed there.
func nodesLog(t *testing.T, id, n int) (string, []api.Block) {
	t.Helper()
	w := newRun(t, n, rand.New(rand.NewPCG(18, uint64(n))))
	for k := range 6 {
		w.ask(k%n, req(k%4, 1+k/4))
		w.flow(40)
		if k%2 == 1 {
			w.tick(k % n)
		}
	}
	w.flow(10000)
	return written(w.twins[id].log), w.blocks
}

// edges are the places in a log's bytes where records end, those next to them,
// and some between.
func edges(b string) []int {
	var l []int
	at := 0
	for at < len(b) {
		size := int(b[at+2])<<8 + int(b[at+3])
		l = append(l, at, at+1, at+3, at+4, at+5, at+4+size/2, at+3+size)
		at += 4 + size
	}
	return append(l, at)
}

// A log that a node wrote, cut anywhere: the twins are compared, and all blocks
// asked for.
func TestOpenCutAnywhere(t *testing.T) {
	t.Parallel()
	for _, n := range []int{1, 4} {
		b, blocks := nodesLog(t, n-1, n)
		views, committed := map[int]int{}, map[int]int{}
		for _, at := range edges(b) {
			x := openTwin(t, n-1, n, b[:at])
			x.stand(blocks...)
			views[x.View()]++
			committed[len(x.Committed())]++
			if x.Waits() > 0 || x.Dead() {
				t.Fatal(at, x.Waits())
			}
		}
		if len(views) < 8 || len(committed) < 5 {
			t.Error("that is no trial", len(b), views, committed)
		}
	}
}

// The last view may be the one behind the highest certificate's, or Voted.
func TestOpenLastView(t *testing.T) {
	a := first(1, api.MaxView-1, req(0, 1))
	b := on(1, a, api.MaxView)
	x := openTwin(t, 0, 1, logOf(rule.State{Voted: api.MaxView}, a, b))
	x.is(api.MaxView, api.MaxView-1, rule.State{Voted: api.MaxView}, 0, 0, 0)
	x = openTwin(t, 0, 1, logOf(rule.State{Voted: api.MaxView - 1}, a, b))
	x.is(api.MaxView, api.MaxView-1, rule.State{Voted: api.MaxView - 1}, 0, 0, 0)
}

// Opening writes nothing, and leaves as many bytes as there are whole records.
func TestOpenWritesNothing(t *testing.T) {
	b := logOf(rule.State{Voted: 1}, chain(4, 1, 2)...)
	l := safe.Of(b)
	l.Fuse(0)
	if _, e := node.Open(seed, 0, 4, l); e != api.OK {
		t.Error(e)
	}
	if written(l) != b || l.Len() != len(b) {
		t.Error(fmt.Sprintf("%d bytes", l.Len()))
	}
}
