package pool_test

import (
	"slices"
	"testing"

	"comitia/api"
	"comitia/pool"
)

// spoil writes over a list, and over its spare room.
func spoil(l []api.Request) {
	for i := range cap(l) {
		l[:cap(l)][i] = request(2, 1000+i, "spoilt")
	}
}

// roomy is a list with spare room, in which something stands.
func roomy(l []api.Request) []api.Request {
	x := append(slices.Clone(l), request(3, 1, "spare"), request(0, 1, "spare"), request(1, 7, "spare"))
	return x[:len(l)]
}

// checkLeft asks whether a list is as it was, spare room and all.
func checkLeft(t *testing.T, l, was []api.Request) {
	t.Helper()
	if !slices.Equal(l[:cap(l)], was) {
		t.Errorf("%v, not %v", l[:cap(l)], was)
	}
}

// The list that was handed to Done may be written over: what is done is done,
// and nothing else is.
func TestDoneKeepsNothing(t *testing.T) {
	l := many(api.MaxPool)
	for n := range 6 {
		p := pooled(t, l[:8]...)
		done := roomy(slices.Concat(l[:n], l[8:10]))
		p.Done(done)
		spoil(done)
		check(t, p, l[n:8]...)
		refused(t, p, api.ErrOld, slices.Concat(l[:n], l[8:10])...)
		add(t, p, api.OK, request(2, 1000, "a"), request(2, 1001, "b"), request(3, 10, "c"))
		check(t, p, append(slices.Clone(l[n:8]), request(2, 1000, "a"), request(2, 1001, "b"), request(3, 10, "c"))...)
	}
}

// The list that Take leaves out may be written over, too.
func TestTakeKeepsNothing(t *testing.T) {
	l := many(7)
	for n := range 7 {
		p := pooled(t, l...)
		but := roomy(l[:n])
		got := p.Take(3, but)
		spoil(but)
		if want := firsts(l[n:], 3); !slices.Equal(got, want) {
			t.Errorf("%v, not %v", got, want)
		}
		check(t, p, l...)
		take(t, p, 9, nil, l)
	}
}

// What is handed in is left as it is, its spare room, too: in whatever order
// it stands, with one that comes twice, and one that can't be.
func TestWhatIsHandedInIsLeft(t *testing.T) {
	l := many(8)
	done := roomy(list(l[4], l[2], l[7], l[2], request(9, 0, "odd"), l[3]))
	but := roomy(list(l[1], l[5], request(-1, 3, "odd"), l[4], l[1], l[6], l[3]))
	wasDone, wasBut := slices.Clone(done[:cap(done)]), slices.Clone(but[:cap(but)])
	p := pooled(t, l...)
	for n := range 9 {
		p.Take(n, but)
		checkLeft(t, but, wasBut)
	}
	p.Done(done)
	checkLeft(t, done, wasDone)
	add(t, p, api.OK, request(3, 90, "x"))
	p.Take(9, but)
	p.Done(but)
	refused(t, p, api.ErrOld, l[1:]...)
	spoil(p.All())
	spoil(p.Take(9, done))
	checkLeft(t, done, wasDone)
	checkLeft(t, but, wasBut)
}

// What All and Take answered may be written over, and may grow.
func TestAnswersAreNew(t *testing.T) {
	l := many(api.MaxPool)
	for n := range api.MaxPool + 1 {
		p := pooled(t, l[:n]...)
		for _, but := range [][]api.Request{nil, l[:1], l[n/2:], l} {
			for k := range n + 2 {
				spoil(p.Take(k, but))
				_ = append(p.Take(k, but), request(1, 500, "mine"))
			}
		}
		spoil(p.All())
		_ = append(p.All(), request(1, 500, "mine"))
		check(t, p, l[:n]...)
		if n < api.MaxPool {
			add(t, p, api.OK, l[n])
			check(t, p, l[:n+1]...)
		}
	}
}

// An answer shares nothing with what was handed in, nor with another answer.
func TestAnswersAreApart(t *testing.T) {
	l := many(6)
	p := pooled(t, l...)
	a, b, c, d := p.All(), p.All(), p.Take(9, nil), p.Take(9, nil)
	spoil(a)
	spoil(c)
	if !slices.Equal(b, l) || !slices.Equal(d, l) {
		t.Errorf("%v and %v, not %v", b, d, l)
	}
	but := l[2:4]
	got := p.Take(9, but)
	spoil(got)
	if !slices.Equal(but, many(6)[2:4]) {
		t.Errorf("%v", but)
	}
	check(t, p, many(6)...)
}

// What was answered stays, whatever is added and done behind it.
func TestAnswersStay(t *testing.T) {
	l := many(2 * api.MaxPool)
	for n := range api.MaxPool {
		p := pooled(t, l[:api.MaxPool]...)
		all, some := p.All(), p.Take(5, l[:2])
		p.Done(l[n : n+1])
		add(t, p, api.OK, l[api.MaxPool])
		p.Done(l[:api.MaxPool])
		add(t, p, api.OK, l[api.MaxPool+1:]...)
		if !slices.Equal(all, l[:api.MaxPool]) || !slices.Equal(some, l[2:7]) {
			t.Errorf("%v and %v", all, some)
		}
		check(t, p, l[api.MaxPool:]...)
	}
}

// A pool's own answers may be handed to it, and to another one.
func TestAnswersHandedIn(t *testing.T) {
	l := many(8)
	p, q := pooled(t, l...), pool.New()
	all := p.All()
	take(t, p, 9, all, nil)
	add(t, q, api.OK, all...)
	some := p.Take(3, all[:2])
	p.Done(some)
	spoil(some)
	spoil(all)
	check(t, p, slices.Concat(l[:2], l[5:])...)
	check(t, q, l...)
	rest := p.All()
	p.Done(rest)
	check(t, p)
	if !slices.Equal(rest, slices.Concat(l[:2], l[5:])) {
		t.Errorf("%v", rest)
	}
	check(t, q, l...)
}

// Two pools don't hang on one another.
func TestPoolsAreApart(t *testing.T) {
	l := many(2 * api.MaxPool)
	a, b := pool.New(), pool.New()
	if a == b {
		t.Fatal("one pool")
	}
	add(t, a, api.OK, l[:api.MaxPool]...)
	check(t, b)
	a.Done(l[:4])
	a.Done(l[20:])
	add(t, b, api.OK, l[:3]...)
	add(t, b, api.OK, l[20:22]...)
	check(t, a, l[4:api.MaxPool]...)
	b.Done(l[1:7])
	check(t, a, l[4:api.MaxPool]...)
	check(t, b, l[0], l[20], l[21])
	refused(t, a, api.ErrOld, l[0], l[20])
	refused(t, b, api.ErrOld, l[6])
	refused(t, a, api.ErrKnown, l[6])
	add(t, b, api.OK, l[8:8+api.MaxPool-3]...)
	refused(t, b, api.ErrBusy, l[22])
	add(t, a, api.OK, l[api.MaxPool])
	check(t, a, l[4:api.MaxPool+1]...)
	check(t, pool.New())
	add(t, pool.New(), api.OK, l[0])
}
