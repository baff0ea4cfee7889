package pool_test

import (
	"math/rand/v2"
	"slices"
	"strings"
	"testing"

	"comitia/api"
	"comitia/pool"
)

// checkGone asks whether none of those that are done waits, or comes in.
func checkGone(t *testing.T, p *pool.Pool, done []api.Request) {
	t.Helper()
	for _, r := range slices.Concat(p.All(), p.Take(api.MaxPool, nil)) {
		if has(done, r) {
			t.Errorf("%v waits", r)
		}
	}
	for _, r := range done {
		if p.Has(r.Client, r.Seq) {
			t.Errorf("Has(%d, %d)", r.Client, r.Seq)
		}
	}
}

// checkBounds asks whether a pool keeps what its words say: at most MaxPool
// wait, each client and Seq once, and each of these could be.
func checkBounds(t *testing.T, p *pool.Pool) {
	t.Helper()
	l := p.All()
	if len(l) > api.MaxPool || len(l) != p.Len() {
		t.Errorf("%d wait, Len %d", len(l), p.Len())
	}
	for i, r := range l {
		if has(l[:i], r) || r.Client < 0 || r.Client >= api.MaxClients || r.Seq < 1 || r.Seq > maxSeq || len(r.Body) > api.MaxBody {
			t.Errorf("%v in %v", r, l)
		}
	}
}

// What is done never waits again, whatever is added and done then, and
// whatever comes, the pool keeps its bounds.
func TestDoneNeverWaitsAgain(t *testing.T) {
	r := rand.New(rand.NewPCG(12, 2))
	results := map[api.Errno]int{}
	for range 150 {
		p := pool.New()
		var done []api.Request
		seqs := 3 + r.IntN(20)
		for range 60 {
			for range r.IntN(4) {
				x := someRequest(r, seqs)
				e := p.Add(x)
				if has(done, x) && e != api.ErrOld && e != api.ErrArg {
					t.Errorf("Add %v: %d", x, e)
				}
				results[e]++
			}
			if r.IntN(3) == 0 {
				some := slices.Concat(someRequests(r, 2, seqs), p.Take(r.IntN(3), nil))
				p.Done(some)
				done = append(done, some...)
			}
			checkGone(t, p, done)
			checkBounds(t, p)
		}
		if t.Failed() {
			t.FailNow()
		}
	}
	if results[api.OK] < 1000 || results[api.ErrOld] < 1000 || results[api.ErrBusy] < 100 {
		t.Error("that is no trial", results)
	}
}

// One that is done is refused for ever, by whatever Body, at an empty pool, at
// a full one, and with thousands of marks beside its own.
func TestDoneForEver(t *testing.T) {
	first := request(1, 1, "a")
	for _, came := range []bool{false, true} {
		p := pool.New()
		if came {
			add(t, p, api.OK, first)
		}
		p.Done(list(first))
		for i := range 3000 {
			x := request(i%api.MaxClients, 2+i, "x")
			add(t, p, api.OK, x)
			add(t, p, api.ErrOld, first, request(1, 1, strings.Repeat("x", i%(api.MaxBody+1))))
			if p.Len() == api.MaxPool || i%7 == 0 {
				p.Done(p.Take(1+i%api.MaxPool, nil))
			}
			if p.Has(1, 1) {
				t.Fatalf("it waits behind %d", i)
			}
		}
		p.Done(p.All())
		refused(t, p, api.ErrOld, first)
		for i := range 3000 {
			add(t, p, api.ErrOld, request(i%api.MaxClients, 2+i, "x"))
		}
		check(t, p)
	}
}

// Each order in which three requests are added, done, and added again.
func TestEachOrder(t *testing.T) {
	l := list(request(0, 1, "a"), request(0, 2, "b"), request(2, 1, "c"))
	for i := range 6 * 6 * 6 * 6 * 6 {
		p := pool.New()
		var waits, done []api.Request
		for range 5 {
			x := l[i%3]
			if i/3%2 == 0 {
				want := api.OK
				if has(done, x) {
					want = api.ErrOld
				} else if has(waits, x) {
					want = api.ErrKnown
				} else {
					waits = append(waits, x)
				}
				add(t, p, want, x)
			} else {
				p.Done(list(x))
				waits, done = without(waits, list(x)), append(done, x)
			}
			i /= 6
			checkGone(t, p, done)
		}
		if !slices.Equal(p.All(), waits) || t.Failed() {
			t.Fatalf("%v, not %v", p.All(), waits)
		}
	}
}
