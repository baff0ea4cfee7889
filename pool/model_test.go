package pool_test

import (
	"fmt"
	"math/rand/v2"
	"slices"
	"strings"
	"testing"

	"comitia/api"
	"comitia/pool"
)

// A plain pool does what the chapter says, word by word: it remembers all that
// ever waited, and all that was done.
type plain struct {
	came, done []api.Request
}

func (p *plain) waits() []api.Request {
	return without(p.came, p.done)
}

func (p *plain) add(r api.Request) api.Errno {
	switch {
	case r.Client < 0, r.Client >= api.MaxClients, r.Seq < 1, r.Seq > 2147483647, len(r.Body) > 40:
		return api.ErrArg
	case has(p.done, r):
		return api.ErrOld
	case has(p.waits(), r):
		return api.ErrKnown
	case len(p.waits()) == 12:
		return api.ErrBusy
	}
	p.came = append(p.came, r)
	return api.OK
}

// A call is one that a pool and a plain one are asked alike.
type call struct {
	name string
	ask  func(t *testing.T, p *pool.Pool, x *plain)
}

func addCall(l ...api.Request) call {
	return call{fmt.Sprint("add ", l), func(t *testing.T, p *pool.Pool, x *plain) {
		for _, r := range l {
			add(t, p, x.add(r), r)
		}
	}}
}

func doneCall(l ...api.Request) call {
	return call{fmt.Sprint("done ", l), func(t *testing.T, p *pool.Pool, x *plain) {
		p.Done(l)
		x.done = append(x.done, l...)
	}}
}

func takeCall(n int, but ...api.Request) call {
	return call{fmt.Sprint("take ", n, but), func(t *testing.T, p *pool.Pool, x *plain) {
		take(t, p, n, but, firsts(without(x.waits(), but), n))
	}}
}

// All calls four deep, of few requests.
func TestWhateverFourCalls(t *testing.T) {
	a, b, c := request(0, 1, "a"), request(0, 2, "b"), request(1, 1, "c")
	full := many(api.MaxPool + 2)[2:]
	calls := []call{
		addCall(a), addCall(request(0, 1, "other")), addCall(b), addCall(c), addCall(full...), addCall(request(0, 1, strings.Repeat("x", 41))),
		doneCall(), doneCall(a), doneCall(request(0, 2, "other")), doneCall(c, a), doneCall(full[1:]...), doneCall(request(0, 0, "")),
		takeCall(1), takeCall(2, a), takeCall(9, c, b),
	}
	for i := range len(calls) * len(calls) * len(calls) * len(calls) {
		p, x := pool.New(), &plain{}
		var names []string
		for range 4 {
			next := calls[i%len(calls)]
			names = append(names, next.name)
			next.ask(t, p, x)
			i /= len(calls)
		}
		if !slices.Equal(p.All(), x.waits()) || p.Len() != len(x.waits()) {
			t.Errorf("%v, not %v", p.All(), x.waits())
		}
		if t.Failed() {
			check(t, p, x.waits()...)
			t.Fatal(names)
		}
	}
}

// someRequest is a request at random, now and then one that can't be.
func someRequest(r *rand.Rand, seqs int) api.Request {
	x := request(r.IntN(api.MaxClients), 1+r.IntN(seqs), strings.Repeat("x", r.IntN(4)))
	switch r.IntN(30) {
	case 0:
		x.Client = []int{-1, api.MaxClients, 1 << 32}[r.IntN(3)]
	case 1:
		x.Seq = []int{0, -1, maxSeq + 1, 1<<32 + 1, maxSeq}[r.IntN(5)]
	case 2:
		x.Body = strings.Repeat("x", api.MaxBody+r.IntN(2))
	}
	return x
}

func someRequests(r *rand.Rand, most, seqs int) []api.Request {
	var l []api.Request
	for range r.IntN(most + 1) {
		l = append(l, someRequest(r, seqs))
	}
	return l
}

func someCall(r *rand.Rand, seqs int) call {
	switch r.IntN(6) {
	case 0:
		return doneCall(someRequests(r, 3, seqs)...)
	case 1:
		return takeCall(r.IntN(16)-2, someRequests(r, 6, seqs)...)
	}
	return addCall(someRequest(r, seqs))
}

// Whatever calls, at random, of few Seqs and of many.
func TestWhateverCalls(t *testing.T) {
	r := rand.New(rand.NewPCG(12, 1))
	counts := map[api.Errno]int{}
	for range 200 {
		seqs := []int{2, 5, 20, 80}[r.IntN(4)]
		p, x := pool.New(), &plain{}
		for range 100 {
			someCall(r, seqs).ask(t, p, x)
			another := someRequest(r, seqs)
			want := x.add(another)
			add(t, p, want, another)
			counts[want]++
			check(t, p, x.waits()...)
			if t.Failed() {
				t.FailNow()
			}
		}
	}
	for _, e := range []api.Errno{api.OK, api.ErrArg, api.ErrOld, api.ErrKnown, api.ErrBusy} {
		if counts[e] < 500 {
			t.Error("that is no trial", counts)
		}
	}
}
