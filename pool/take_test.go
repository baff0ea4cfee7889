package pool_test

import (
	"math"
	"slices"
	"testing"

	"comitia/api"
)

// firsts are the first n of a list, none of an n below 0.
func firsts(l []api.Request, n int) []api.Request {
	return l[:max(0, min(n, len(l)))]
}

// numbersOf are requests of the same clients and Seqs, with other Bodies.
func numbersOf(l []api.Request) []api.Request {
	var other []api.Request
	for _, r := range l {
		other = append(other, request(r.Client, r.Seq, r.Body+" or another"))
	}
	return other
}

// Each n around how many wait, with nothing left out.
func TestTake(t *testing.T) {
	l := many(api.MaxPool)
	for waits := range api.MaxPool + 1 {
		p := pooled(t, l[:waits]...)
		for n := -3; n <= api.MaxPool+3; n++ {
			for _, none := range [][]api.Request{nil, {}, l[:0]} {
				take(t, p, n, none, firsts(l[:waits], n))
			}
		}
		for _, n := range []int{math.MaxInt, 1 << 31, 1 << 32, 1<<32 + 1} {
			take(t, p, n, nil, l[:waits])
		}
		for _, n := range []int{math.MinInt, -1 << 31, -1 << 32, 1 - 1<<32} {
			take(t, p, n, nil, nil)
			take(t, p, n, l[:waits], nil)
		}
		check(t, p, l[:waits]...)
	}
}

// Each part of those that wait left out, and each n: what is left out isn't
// counted.
func TestTakeBut(t *testing.T) {
	l := many(6)
	p := pooled(t, l...)
	for _, but := range parts(l) {
		rest := without(l, but)
		backward := slices.Clone(but)
		slices.Reverse(backward)
		for n := -1; n <= len(l)+1; n++ {
			for _, x := range [][]api.Request{but, backward, numbersOf(but), slices.Concat(but, but)} {
				take(t, p, n, x, firsts(rest, n))
			}
		}
	}
	check(t, p, l...)
}

func TestTakeButSome(t *testing.T) {
	l := many(api.MaxPool)
	p := pooled(t, l...)
	last := api.MaxPool - 1
	take(t, p, 3, l[:1], l[1:4])
	take(t, p, 3, l[1:2], list(l[0], l[2], l[3]))
	take(t, p, 3, l[2:3], list(l[0], l[1], l[3]))
	take(t, p, 3, l[3:4], l[:3])
	take(t, p, 3, l[last:], l[:3])
	take(t, p, api.MaxPool, l[last:], l[:last])
	take(t, p, api.MaxPool, l[5:6], slices.Concat(l[:5], l[6:]))
	take(t, p, 3, l[:last], l[last:])
	take(t, p, 3, l, nil)
	take(t, p, api.MaxPool, l, nil)
	take(t, p, 1, l[:3], l[3:4])
	check(t, p, l...)
}

// Such as don't wait leave nothing out: those that never came, such as are
// done, such as can't be.
func TestTakeButWhatDoesNotWait(t *testing.T) {
	l := many(9)
	p := pooled(t, l[:6]...)
	p.Done(l[4:7])
	check(t, p, l[:4]...)
	other := list(api.Request{}, request(-1, 1, ""), request(api.MaxClients, 1, ""), request(0, 0, ""), request(0, maxSeq+1, ""), request(1<<32, 1, ""),
		request(0, 1+1<<32, ""), request(1, 1-1<<32, ""), request(256, 1, ""), request(0, 1<<31, ""), request(math.MaxInt, math.MinInt, ""))
	for n := -1; n <= 6; n++ {
		take(t, p, n, l[4:], firsts(l[:4], n))
		take(t, p, n, other, firsts(l[:4], n))
		take(t, p, n, slices.Concat(l[4:], other, l[1:2], other), firsts(list(l[0], l[2], l[3]), n))
	}
	check(t, p, l[:4]...)
	add(t, p, api.OK, l[7], l[8])
	check(t, p, append(l[:4:4], l[7], l[8])...)
}

// Client and Seq tell together what is left out: not one of them alone, nor a
// Body.
func TestTakeButByBoth(t *testing.T) {
	l := list(request(1, 2, "a"), request(2, 1, "a"), request(1, 1, "b"), request(2, 2, "c"), request(1, 3, "a"), request(0, 12, ""))
	p := pooled(t, l...)
	for i, r := range l {
		for _, body := range []string{"", "a", "b", "c", r.Body + "x"} {
			take(t, p, len(l), list(request(r.Client, r.Seq, body)), slices.Concat(l[:i], l[i+1:]))
		}
	}
	take(t, p, 9, list(request(1, 4, "a"), request(3, 2, "a"), request(0, 1, ""), request(0, 2, "a")), l)
	take(t, p, 9, list(request(1, 1, ""), request(2, 2, "")), list(l[0], l[1], l[4], l[5]))
}

// What was taken waits still: it is taken again, known, and may be done.
func TestTakenWaitStill(t *testing.T) {
	l := many(api.MaxPool + 1)
	p := pooled(t, l[:api.MaxPool]...)
	for range 3 {
		take(t, p, 4, l[1:2], list(l[0], l[2], l[3], l[4]))
		take(t, p, api.MaxPool, nil, l[:api.MaxPool])
		check(t, p, l[:api.MaxPool]...)
	}
	refused(t, p, api.ErrKnown, p.Take(3, nil)...)
	refused(t, p, api.ErrBusy, l[api.MaxPool])
	p.Done(p.Take(3, l[:2]))
	check(t, p, slices.Concat(l[:2], l[5:api.MaxPool])...)
	add(t, p, api.OK, l[api.MaxPool])
	check(t, p, slices.Concat(l[:2], l[5:])...)
}

// What is left out once is left out of that answer alone.
func TestLeftOutWaitsStill(t *testing.T) {
	l := many(4)
	p := pooled(t, l...)
	take(t, p, 9, l, nil)
	check(t, p, l...)
	take(t, p, 2, l[:2], l[2:])
	take(t, p, 2, nil, l[:2])
	refused(t, p, api.ErrKnown, l...)
	p.Done(l[:1])
	take(t, p, 2, l[:1], l[1:3])
	check(t, p, l[1:]...)
}

// Many may be left out, more than ever wait.
func TestTakeButMany(t *testing.T) {
	l := many(5000)
	waits := slices.Concat(l[:2], l[1000:1003], l[4996:])
	p := pooled(t, waits...)
	take(t, p, 9, l[:4999], l[4999:])
	take(t, p, 2, l[1:], l[:1])
	take(t, p, 9, slices.Concat(l[2:1000], l[1003:4996]), waits)
	check(t, p, waits...)
}
