package queue_test

import (
	"testing"

	"comitia/api"
)

// numbers are those at and beside the places of so many, of a lane's and at the
// edges of what a number can be.
func numbers(n, a int) []int {
	l := []int{greatest, greatest - 1, greatest - n, least, least + 1, least + n}
	for _, i := range []int{0, a, n, 2 * n, 3*n + a, 1 << 7, 1 << 8, 1 << 15, 1 << 16, 1 << 31, 1 << 32, 1 << 62} {
		for d := -1; d <= 1; d++ {
			l = append(l, i+d, -i+d)
		}
	}
	return l
}

// Of queues of whatever lengths, whatever stands at whatever place.
func TestPopAt(t *testing.T) {
	for _, a := range []int{0, 1, 2, 3, 5, 63, 64} {
		for _, b := range []int{0, 1, 2, 3, 6, 63, 64} {
			for _, i := range numbers(a+b, a) {
				x := newReader(t)
				x.fill(a, b)
				x.pop(i)
				x.drain()
				if t.Failed() {
					t.Fatal(a, b, i)
				}
			}
		}
	}
}

// The places by name.
func TestPopPlaces(t *testing.T) {
	for _, c := range []struct{ i, kind, index int }{
		{0, api.Propose, 0}, {1, api.Voted, 1}, {2, api.NewView, 2}, // the first lane
		{3, api.Ask, 1000}, {4, api.Answer, 1001}, // the second one
		{5, api.Propose, 0}, {6, api.Voted, 1}, {9, api.Answer, 1001}, {10, api.Propose, 0},
		{-1, api.Answer, 1001}, {-2, api.Ask, 1000}, {-3, api.NewView, 2}, {-4, api.Voted, 1},
		{-5, api.Propose, 0}, {-6, api.Answer, 1001}, {-10, api.Propose, 0}, {-11, api.Answer, 1001},
		{greatest, api.NewView, 2},   // 2^63 - 1 is 7 modulo 10
		{least, api.NewView, 2},      // -2^63 is 2 modulo 10
		{1 << 32, api.Voted, 1},      // 2^32 is 6 modulo 10
		{-1 << 31, api.NewView, 2},   // -2^31 is 2 modulo 10
		{1<<31 - 1, api.NewView, 2},  // 7 modulo 10
		{1 << 31, api.Ask, 1000},     // 8 modulo 10
		{-1 << 32, api.Answer, 1001}, // 4 modulo 10
	} {
		x := newReader(t)
		x.fill(3, 2)
		m, ok := x.Pop(c.i)
		if !ok || m.Kind != c.kind || m.Index != c.index || x.Len() != 4 {
			t.Error(c, m, ok)
		}
	}
}

// All at one place, one behind the other, till there is none.
func TestPopAll(t *testing.T) {
	for _, i := range numbers(2*room, room) {
		x := newReader(t)
		x.fill(room, room)
		for range 2*room + 2 {
			x.pop(i)
		}
		x.fill(2, 2)
		x.pop(i)
		x.drain()
		if t.Failed() {
			t.Fatal(i)
		}
	}
}

// One lane alone goes round in itself.
func TestPopOfOneLane(t *testing.T) {
	for n := 1; n <= room; n++ {
		for _, i := range []int{0, 1, n - 1, n, n + 1, -1, -n, -n - 1, greatest, least} {
			for _, lengths := range [][2]int{{n, 0}, {0, n}} {
				x := newReader(t)
				x.fill(lengths[0], lengths[1])
				x.pop(i)
				x.pop(i)
				x.drain()
				if t.Failed() {
					t.Fatal(n, i, lengths)
				}
			}
		}
	}
}

// A queue has none when it is new, popped empty, or cleared.
func TestPopNone(t *testing.T) {
	x := newReader(t)
	for range 3 {
		for _, i := range numbers(0, 0) {
			x.pop(i)
		}
		x.fill(3, 2)
		x.drain()
		for _, i := range numbers(5, 3) {
			x.pop(i)
		}
		x.fill(room, room)
		x.clear()
		for _, i := range numbers(2*room, room) {
			x.pop(i)
		}
	}
}

func (x reader) clear() {
	x.t.Helper()
	x.Clear()
	x.p.clear()
	x.is()
}

// Clear takes all out and leaves Dropped; what is pushed behind it is as in a
// new queue.
func TestClear(t *testing.T) {
	for _, a := range []int{0, 1, 2, 63, 64} {
		for _, b := range []int{0, 1, 2, 63, 64} {
			x := newReader(t)
			dropped := 0
			for range 3 {
				x.fill(a, b)
				for _, kind := range kinds {
					e := x.push("x")
					if x.Len() == 2*room {
						e = x.push(xBytes(kind))
					}
					if e == api.ErrBusy {
						dropped++
					}
				}
				x.clear()
				if x.Len() != 0 || x.Dropped() != dropped {
					t.Error(a, b, x.Len(), x.Dropped())
				}
				x.clear()
				x.pop(0)
				x.pushed(api.OK, full(api.Answer, 7))
				x.pushed(api.OK, full(api.Voted, 8))
				x.pop(1)
				x.drain()
			}
			x.fill(room, room)
			x.pushed(api.ErrBusy, full(api.Ask, 1))
			x.pushed(api.ErrBusy, full(api.Found, 1))
			x.drain()
		}
	}
}
