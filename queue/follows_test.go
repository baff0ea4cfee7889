package queue_test

import (
	"math/rand/v2"
	"reflect"
	"testing"

	"comitia/api"
	"comitia/queue"
	"comitia/wire"
)

// bounded tells the test if a queue has more than it has room for, or tells its
// lengths amiss.
func bounded(t *testing.T, q *queue.Queue) {
	t.Helper()
	a, b := q.Lanes()
	if a < 0 || a > api.MaxQueue || b < 0 || b > api.MaxQueue || q.Len() != a+b || q.Len() > 2*api.MaxQueue {
		t.Error(a, b, q.Len())
	}
}

// However many come, of one kind or of all, there are at most 2 times MaxQueue.
func TestBounds(t *testing.T) {
	for _, comes := range [][]int{{1}, {2}, {3}, {4}, {5}, {6}, {7}, first, second, kinds, {4, 5, 4, 2}} {
		q := queue.New()
		there := 0
		for k := range 5000 {
			if e := q.Push(wire.Msg(msg(comes[k%len(comes)], k))); e == api.OK {
				there++
			}
			bounded(t, q)
			if q.Len() != there || q.Dropped() != k+1-there {
				t.Fatal(comes, k, q.Len(), there, q.Dropped())
			}
		}
		for range there {
			if _, ok := q.Pop(7); !ok {
				t.Error(comes, "fewer than", there)
			}
		}
		if _, ok := q.Pop(7); ok {
			t.Error(comes, "more than", there)
		}
	}
}

// While requests, and what they are answered, are dropped, each of the other
// kinds has as much room as if none came; and the other way round.
func TestNoneForAnother(t *testing.T) {
	for _, lanes := range [][2][]int{{first, second}, {second, first}} {
		for _, kind := range lanes[0] {
			for _, flood := range lanes[1] {
				q := queue.New()
				dropped := 0
				more := func() {
					for range 10 {
						if q.Push(wire.Msg(full(flood, 1))) == api.ErrBusy {
							dropped++
						}
					}
				}
				for k := range api.MaxQueue {
					more()
					if e := q.Push(wire.Msg(full(kind, k))); e != api.OK {
						t.Error(kind, flood, k, e)
					}
					bounded(t, q)
				}
				if dropped != 9*api.MaxQueue || q.Dropped() != dropped || q.Len() != 2*api.MaxQueue {
					t.Error(kind, flood, dropped, q.Dropped(), q.Len())
				}
				if e := q.Push(wire.Msg(full(kind, 1))); e != api.ErrBusy {
					t.Error(kind, flood, e)
				}
			}
		}
	}
}

// With a flood of requests beside them, votes are popped as without it.
func TestVotesAsWithout(t *testing.T) {
	r := rand.New(rand.NewPCG(17, 2))
	busy, flooded := 0, 0
	for range 200 {
		alone, beside := queue.New(), queue.New()
		for k := range 300 {
			for range r.IntN(4) {
				if beside.Push(wire.Msg(full(second[r.IntN(2)], k))) == api.ErrBusy {
					flooded++
				}
			}
			if r.IntN(3) > 0 {
				b := wire.Msg(full(first[r.IntN(5)], k))
				e := alone.Push(b)
				if got := beside.Push(b); got != e {
					t.Fatal(got, e)
				}
				if e == api.ErrBusy {
					busy++
				}
				continue
			}
			if n := alone.Len(); n > 0 {
				i := r.IntN(n)
				m, _ := alone.Pop(i)
				if got, ok := beside.Pop(i); !ok || !reflect.DeepEqual(got, m) {
					t.Fatal(i, got, ok, m)
				}
			}
			bounded(t, beside)
		}
	}
	if busy < 1000 || flooded < 10000 {
		t.Error("that is no trial", busy, flooded)
	}
}

// What is popped is what was pushed: each one once, none that wasn't, and of a
// lane popped from the front in the order in which they came.
func TestEachOnce(t *testing.T) {
	r := rand.New(rand.NewPCG(17, 3))
	for range 100 {
		q := queue.New()
		there := map[int]api.Msg{}
		for k := range 1000 {
			if r.IntN(2) == 0 {
				m := full(1+r.IntN(7), k)
				if q.Push(wire.Msg(m)) == api.OK {
					there[k] = m
				}
				continue
			}
			m, ok := q.Pop(int(r.Uint64()))
			if want, is := there[m.Index]; ok && (!is || !reflect.DeepEqual(m, want)) || !ok && len(there) > 0 {
				t.Fatal(k, m, ok)
			}
			delete(there, m.Index)
		}
		if q.Len() != len(there) {
			t.Fatal(q.Len(), len(there))
		}
		last := [2]int{-1, -1}
		for range len(there) {
			m, _ := q.Pop(0)
			lane := 0
			if m.Kind == api.Ask || m.Kind == api.Answer {
				lane = 1
			}
			if m.Index <= last[lane] || lane == 0 && last[1] >= 0 {
				t.Fatal(m.Index, last)
			}
			last[lane] = m.Index
		}
	}
}

// Two queues don't hang on one another.
func TestApart(t *testing.T) {
	x, y := newReader(t), newReader(t)
	x.fill(room, room)
	x.pushed(api.ErrBusy, msg(api.Ask, 1))
	y.is()
	y.pop(0)
	y.fill(3, 2)
	x.is()
	y.clear()
	x.is()
	y.fill(room, 5)
	x.clear()
	y.is()
	y.pushed(api.ErrBusy, msg(api.Voted, 1))
	x.is()
	x.fill(4, 4)
	y.drain()
	x.drain()
}

// spoil changes all that a message's lists hold, their spare room too.
func spoil(m *api.Msg) {
	for _, l := range [][]api.Sig{m.Block.Justify.Sigs, m.Cert.Sigs, {m.Sig}} {
		l = l[:cap(l)]
		for i := range l {
			tags := l[i].Tags[:cap(l[i].Tags)]
			for j := range tags {
				tags[j] = "spoiled"
			}
			l[i].From = 99
		}
	}
	batch := m.Block.Batch[:cap(m.Block.Batch)]
	for i := range batch {
		batch[i] = api.Request{Client: 99, Seq: 99, Body: "spoiled"}
	}
}

// What was popped is new memory: whatever becomes of it, others of the same
// bytes, in this queue and in others, stay.
func TestPoppedIsNew(t *testing.T) {
	for _, kind := range kinds {
		m := full(kind, 5)
		b := wire.Msg(m)
		x, y := newReader(t), newReader(t)
		for range 3 {
			x.pushed(api.OK, full(kind, 5))
			if x.push(b) != api.OK || y.push(b) != api.OK {
				t.Error(kind)
			}
		}
		for range 6 {
			got, ok := x.Pop(0)
			x.p.pop(0)
			if !ok || !reflect.DeepEqual(got, m) {
				t.Error(kind, got)
			}
			spoil(&got)
		}
		y.drain()
		x.push(b)
		x.drain()
	}
}
