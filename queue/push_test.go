package queue_test

import (
	"fmt"
	"reflect"
	"strings"
	"testing"

	"comitia/api"
	"comitia/queue"
	"comitia/wire"
)

const (
	greatest = 1<<63 - 1
	least    = -1 << 63
	room     = 64 // of a lane
)

// The kinds of each lane.
var (
	first  = []int{api.Propose, api.Voted, api.NewView, api.Fetch, api.Found}
	second = []int{api.Ask, api.Answer}
	kinds  = []int{1, 2, 3, 4, 5, 6, 7}
)

// The chapter's example.
func Example() {
	q := queue.New()
	for k := range 64 {
		if e := q.Push(wire.Msg(api.Msg{Kind: api.Ask, Request: api.Request{Seq: k + 1}})); e != api.OK {
			fmt.Println(k, e)
		}
	}
	fmt.Println(q.Push(wire.Msg(api.Msg{Kind: api.Ask, Request: api.Request{Seq: 65}})) == api.ErrBusy)
	fmt.Println(q.Push(wire.Msg(api.Msg{Kind: api.Voted})) == api.OK)
	m, ok := q.Pop(0)
	fmt.Println(m.Kind, ok)
	m, ok = q.Pop(-1)
	fmt.Println(m.Kind, m.Request.Seq, ok)
	fmt.Println(q.Len(), q.Dropped())
	// Output:
	// true
	// true
	// 2 true
	// 4 64 true
	// 63 1
}

// msg is a message that is told from others by its Index, and by little else.
func msg(kind, k int) api.Msg {
	return api.Msg{Kind: kind, Index: k}
}

func digest(k int) string {
	return strings.Repeat(string(rune('A'+k%26)), api.HashSize)
}

func tag(k int) string {
	return strings.Repeat(string(rune('a'+k%26)), api.TagSize)
}

func sig(from, k int) api.Sig {
	return api.Sig{From: from, Tags: []string{tag(k), tag(k + 1), tag(k + 2), tag(k + 3)}}
}

// full is a message that has each part, whatever its kind is, and each another
// one.
func full(kind, k int) api.Msg {
	c := api.Cert{View: k, Block: digest(k), Sigs: []api.Sig{sig(0, k), sig(2, k+4), sig(6, k+8)}}
	return api.Msg{
		Kind: kind, From: k % 21, To: (k + 1) % 21, View: k % 1000001, Hash: digest(k + 1),
		Block: api.Block{View: k + 1, Proposer: k % 7, Justify: c, Batch: []api.Request{
			{Client: k % 4, Seq: k + 1, Body: "one"}, {Client: (k + 1) % 4, Seq: k + 2, Body: ""}, {Client: 3, Seq: k + 3, Body: tag(k) + tag(k)},
		}},
		Cert:    api.Cert{View: k + 3, Block: digest(k + 2), Sigs: []api.Sig{sig(1, k+5)}},
		Sig:     sig(k%7, k+6),
		Request: api.Request{Client: (k + 2) % 4, Seq: k + 9, Body: "two"},
		Index:   k, Tag: tag(k + 7),
	}
}

// A reader is a queue beside what must be in it, and tells the test what the
// queue answers otherwise.
type reader struct {
	*queue.Queue
	t *testing.T
	p *plain
}

func newReader(t *testing.T) reader {
	return reader{queue.New(), t, &plain{}}
}

// is asks all that can be read, twice, as reading changes nothing.
func (x reader) is() {
	x.t.Helper()
	for range 2 {
		a, b := x.Lanes()
		if a != len(x.p.first) || b != len(x.p.second) || x.Len() != a+b || x.Dropped() != x.p.dropped {
			x.t.Errorf("Lanes %d %d, Len %d, Dropped %d, not %d %d, and %d", a, b, x.Len(), x.Dropped(),
				len(x.p.first), len(x.p.second), x.p.dropped)
		}
	}
}

// push pushes what is a message, or nothing's bytes.
func (x reader) push(b string) api.Errno {
	x.t.Helper()
	want := x.p.push(b)
	if got := x.Push(b); got != want {
		x.t.Errorf("Push(%.40q) is %d, not %d", b, got, want)
	}
	x.is()
	return want
}

// pushed pushes a message, with this answer.
func (x reader) pushed(want api.Errno, m api.Msg) {
	x.t.Helper()
	if got := x.push(wire.Msg(m)); got != want {
		x.t.Errorf("%v: %d, not %d", m, got, want)
	}
}

// pop pops at i what must stand there.
func (x reader) pop(i int) api.Msg {
	x.t.Helper()
	want, is := x.p.pop(i)
	m, ok := x.Pop(i)
	if ok != is || !reflect.DeepEqual(m, want) {
		x.t.Errorf("Pop(%d) is\n%v, %v, not\n%v, %v", i, m, ok, want, is)
	}
	x.is()
	return m
}

// drain pops all there are, as they stand.
func (x reader) drain() {
	x.t.Helper()
	for range x.p.all() {
		x.pop(0)
	}
	x.pop(0)
}

// fill pushes so many in each lane, in turns, of all the kinds of the lane.
func (x reader) fill(a, b int) {
	x.t.Helper()
	for i := range max(a, b) {
		if i < a {
			x.pushed(api.OK, msg(first[i%len(first)], i))
		}
		if i < b {
			x.pushed(api.OK, msg(second[i%len(second)], 1000+i))
		}
	}
}

func TestNew(t *testing.T) {
	x := newReader(t)
	if a, b := x.Lanes(); a != 0 || b != 0 || x.Len() != 0 || x.Dropped() != 0 {
		t.Error(a, b, x.Len(), x.Dropped())
	}
	for _, i := range []int{0, 1, -1, 64, greatest, least} {
		if m, ok := x.Pop(i); ok || !reflect.DeepEqual(m, api.Msg{}) {
			t.Error(i, m, ok)
		}
	}
	x.Clear()
	x.is()
	x.fill(room, room)
	x.drain()
}

// A queue that New hasn't made is a new one.
func TestNotNew(t *testing.T) {
	x := reader{&queue.Queue{}, t, &plain{}}
	x.is()
	x.pop(0)
	x.Clear()
	x.fill(room, room)
	x.pushed(api.ErrBusy, msg(api.Ask, 1))
	x.drain()
}

// A message of each kind, alone, stands in the lane of its kind and is popped
// with all its parts.
func TestPushEachKind(t *testing.T) {
	for _, kind := range kinds {
		for _, m := range []api.Msg{msg(kind, 0), msg(kind, 1<<31-1), full(kind, 0), full(kind, 5), full(kind, 999996)} {
			q := queue.New()
			if e := q.Push(wire.Msg(m)); e != api.OK {
				t.Error(kind, e)
			}
			a, b := q.Lanes()
			if isSecond := kind == api.Ask || kind == api.Answer; isSecond != (b == 1) || isSecond != (a == 0) || a+b != 1 {
				t.Error(kind, a, b)
			}
			if q.Len() != 1 || q.Dropped() != 0 {
				t.Error(kind, q.Len(), q.Dropped())
			}
			if got, ok := q.Pop(0); !ok || !reflect.DeepEqual(got, m) {
				t.Errorf("%d: %v\n%v, not\n%v", kind, ok, got, m)
			}
			if a, b := q.Lanes(); a != 0 || b != 0 || q.Len() != 0 {
				t.Error(kind, a, b)
			}
		}
	}
}

// A message's lane is its kind's, whatever parts, ends, views it has.
func TestPushByKindAlone(t *testing.T) {
	x := newReader(t)
	for i, kind := range kinds {
		for k := range 3 {
			x.pushed(api.OK, full(kind, 10*i+k))
		}
	}
	if a, b := x.Lanes(); a != 15 || b != 6 {
		t.Error(a, b)
	}
	x.drain()
}

// All orders of the seven kinds: of each lane what came first is the first.
func TestPushInOrder(t *testing.T) {
	orders := 0
	var try func(order, left []int)
	try = func(order, left []int) {
		if len(left) == 0 {
			orders++
			x := newReader(t)
			for k, kind := range order {
				x.pushed(api.OK, msg(kind, k))
			}
			x.drain()
			if t.Failed() {
				t.Fatal(order)
			}
			return
		}
		for i, kind := range left {
			rest := append(append([]int{}, left[:i]...), left[i+1:]...)
			try(append(append([]int{}, order...), kind), rest)
		}
	}
	try(nil, kinds)
	if orders != 5040 {
		t.Error("that is no trial", orders)
	}
}

// What comes twice is there twice.
func TestPushTwice(t *testing.T) {
	for _, kind := range kinds {
		x := newReader(t)
		for range 3 {
			x.pushed(api.OK, full(kind, 3))
		}
		x.pushed(api.OK, full(kind, 4))
		if x.Len() != 4 {
			t.Error(x.Len())
		}
		x.drain()
	}
}

// A lane has room for MaxQueue, of whatever kinds of it, while the other lane
// has none, some, and as many as it can.
func TestPushRoom(t *testing.T) {
	lanes := [][]int{first, second}
	for lane, own := range lanes {
		for _, others := range []int{0, 1, 63, 64} {
			x := newReader(t)
			if lane == 0 {
				x.fill(room-1, others)
			} else {
				x.fill(others, room-1)
			}
			for _, kind := range own {
				x.pushed(api.OK, full(kind, 5))
				for k := range 3 {
					for _, over := range own {
						x.pushed(api.ErrBusy, full(over, k))
						x.pushed(api.ErrBusy, msg(over, k))
					}
				}
				x.pop(lane*others + room - 1)
			}
			x.pushed(api.OK, full(own[0], 6))
			for k := others; k < room; k++ {
				for _, kind := range lanes[1-lane] {
					if x.Len() < 2*room {
						x.pushed(api.OK, full(kind, k))
					}
				}
			}
			for _, kind := range kinds {
				x.pushed(api.ErrBusy, full(kind, 7))
			}
			x.drain()
		}
	}
}

// Each number there may be in both lanes, up to no room in both.
func TestPushAllLengths(t *testing.T) {
	for a := range room + 1 {
		for b := range room + 1 {
			q := queue.New()
			for i := range a {
				q.Push(wire.Msg(msg(first[i%5], i)))
			}
			for i := range b {
				q.Push(wire.Msg(msg(second[i%2], i)))
			}
			c, d := q.Lanes()
			if c != a || d != b || q.Len() != a+b || q.Dropped() != 0 {
				t.Fatal(a, b, c, d, q.Len(), q.Dropped())
			}
			over := 0
			if a == room {
				over++
			}
			if e := q.Push(wire.Msg(msg(api.Voted, 1))); (e == api.ErrBusy) != (a == room) || q.Dropped() != over {
				t.Fatal(a, b, e, q.Dropped())
			}
			if b == room {
				over++
			}
			if e := q.Push(wire.Msg(msg(api.Ask, 1))); (e == api.ErrBusy) != (b == room) || q.Dropped() != over {
				t.Fatal(a, b, e, q.Dropped())
			}
		}
	}
}

// Where one was popped there is room for one, behind all of its lane.
func TestPushBehindPop(t *testing.T) {
	for _, at := range []int{0, 1, 31, 62, 63, 64, 65, 100, 126, 127} {
		x := newReader(t)
		x.fill(room, room)
		for k := range 3 * room {
			lane := first
			if at >= room {
				lane = second
			}
			x.pop(at)
			x.pushed(api.OK, full(lane[k%len(lane)], k))
			x.pushed(api.ErrBusy, full(first[k%5], k))
			x.pushed(api.ErrBusy, full(second[k%2], k))
		}
		if x.Dropped() != 6*room {
			t.Error(x.Dropped())
		}
		x.drain()
	}
}

// Dropped counts all that had no room, and never falls.
func TestDropped(t *testing.T) {
	x := newReader(t)
	x.fill(room, room)
	for k := range 10000 {
		if e := x.Push(wire.Msg(msg(kinds[k%7], k))); e != api.ErrBusy || x.Dropped() != k+1 {
			t.Fatal(k, e, x.Dropped())
		}
	}
	x.p.dropped = 10000
	x.is()
	x.drain()
	x.Clear()
	x.p.clear()
	x.fill(room, room)
	if x.pushed(api.ErrBusy, msg(api.Found, 1)); x.Dropped() != 10001 {
		t.Error(x.Dropped())
	}
}
