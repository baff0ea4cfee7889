package pool_test

import (
	"math"
	"slices"
	"testing"

	"comitia/api"
	"comitia/pool"
)

// parts are all the parts of a list, each in its order.
func parts(l []api.Request) [][]api.Request {
	all := [][]api.Request{nil}
	for _, r := range l {
		for _, part := range slices.Clone(all) {
			all = append(all, append(slices.Clone(part), r))
		}
	}
	return all
}

// Each part of those that wait, done at one time, or one by one from behind.
func TestDoneOfParts(t *testing.T) {
	l := many(5)
	for _, part := range parts(l) {
		rest := without(l, part)
		p, q := pooled(t, l...), pooled(t, l...)
		p.Done(part)
		for _, r := range slices.Backward(part) {
			q.Done(list(r))
		}
		for _, x := range []*pool.Pool{p, q} {
			check(t, x, rest...)
			refused(t, x, api.ErrOld, part...)
			refused(t, x, api.ErrKnown, rest...)
			add(t, x, api.OK, request(3, 100, "behind"))
			check(t, x, append(rest, request(3, 100, "behind"))...)
		}
	}
}

// One by one, from a full pool to an empty one.
func TestDoneToTheLast(t *testing.T) {
	l := many(api.MaxPool)
	p := pooled(t, l...)
	for i, r := range l {
		p.Done(list(r))
		check(t, p, l[i+1:]...)
	}
	refused(t, p, api.ErrOld, l...)
	p = pooled(t, l...)
	p.Done(l)
	check(t, p)
	refused(t, p, api.ErrOld, l...)
}

// What never came is done all the same.
func TestDoneOfWhatNeverCame(t *testing.T) {
	l := many(6)
	p := pooled(t, l[:3]...)
	p.Done(l[3:5])
	check(t, p, l[:3]...)
	refused(t, p, api.ErrOld, l[3:5]...)
	add(t, p, api.OK, l[5])
	check(t, p, append(l[:3:3], l[5])...)
	p.Done(list(l[4], l[1], request(2, 77, ""), l[5], l[3]))
	check(t, p, l[0], l[2])
	refused(t, p, api.ErrOld, l[1], l[3], l[4], l[5], request(2, 77, ""))
}

// Its client and Seq are done, whatever the Body.
func TestDoneWhateverTheBody(t *testing.T) {
	l := list(request(1, 1, "a"), request(1, 2, "b"), request(2, 1, "c"))
	p := pooled(t, l...)
	p.Done(list(request(1, 2, "another"), request(2, 1, "")))
	check(t, p, l[0])
	refused(t, p, api.ErrOld, l[1], l[2], request(1, 2, "another"), request(2, 1, ""))
	p.Done(list(request(1, 1, string(make([]byte, 1000)))))
	check(t, p)
	refused(t, p, api.ErrOld, l...)
}

func TestDoneTwice(t *testing.T) {
	l := many(5)
	p := pooled(t, l...)
	for range 3 {
		p.Done(list(l[1], l[3]))
		check(t, p, l[0], l[2], l[4])
	}
	p.Done(list(l[2], l[2], l[1], l[2]))
	check(t, p, l[0], l[4])
	refused(t, p, api.ErrOld, l[1], l[2], l[3])
	p.Done(list(request(3, 50, ""), request(3, 50, "x"), request(3, 50, "")))
	check(t, p, l[0], l[4])
	refused(t, p, api.ErrOld, request(3, 50, ""))
}

func TestDoneOfNone(t *testing.T) {
	for _, none := range [][]api.Request{nil, {}, many(3)[:0]} {
		for n := range 5 {
			l := many(5)
			p := pooled(t, l[:n]...)
			p.Done(none)
			check(t, p, l[:n]...)
			add(t, p, api.OK, l[n:]...)
			check(t, p, l...)
		}
	}
}

// Such as can't be, done, change nothing: not even for one whose number is
// like theirs in some bits.
func TestDoneOfWhatCannotBe(t *testing.T) {
	odd := list(api.Request{}, request(-1, 1, ""), request(api.MaxClients, 1, ""), request(0, 0, ""), request(0, -1, ""), request(1, maxSeq+1, ""),
		request(1<<32, 1, ""), request(1, 2+1<<32, ""), request(1-1<<32, 1, ""), request(1, 1-1<<32, ""), request(256, 1, ""),
		request(math.MaxInt, math.MaxInt, ""), request(math.MinInt, math.MinInt, ""))
	l := list(request(0, 1, "a"), request(1, 1, "b"), request(1, 2, "c"), request(3, 1, "d"), request(1, maxSeq, "e"))
	p := pooled(t, l[:3]...)
	p.Done(odd)
	check(t, p, l[:3]...)
	refused(t, p, api.ErrArg, odd...)
	add(t, p, api.OK, l[3:]...)
	check(t, p, l...)
	p.Done(append(odd, l[1], odd[0], l[4]))
	check(t, p, l[0], l[2], l[3])
	refused(t, p, api.ErrArg, odd...)
	refused(t, p, api.ErrOld, l[1], l[4])
}

// Many are done, more than ever wait.
func TestDoneOfMany(t *testing.T) {
	l := many(4000)
	p := pooled(t, l[3990:]...)
	p.Done(l[:3995])
	check(t, p, l[3995:]...)
	for _, r := range l[:3995] {
		add(t, p, api.ErrOld, r)
	}
	check(t, p, l[3995:]...)
	p.Done(l)
	for i := range 300 {
		r := request(0, 5000+i, "")
		add(t, p, api.OK, r)
		check(t, p, r)
		p.Done(list(r))
	}
}
