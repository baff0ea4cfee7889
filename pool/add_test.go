package pool_test

import (
	"fmt"
	"math"
	"slices"
	"strings"
	"testing"

	"comitia/api"
	"comitia/pool"
)

// maxSeq is the greatest Seq that the chapter names.
const maxSeq = 1<<31 - 1

func request(client, seq int, body string) api.Request {
	return api.Request{Client: client, Seq: seq, Body: body}
}

func list(l ...api.Request) []api.Request {
	return l
}

// many are so many requests of unlike numbers, of all clients in turn.
func many(n int) []api.Request {
	var l []api.Request
	for i := range n {
		l = append(l, request(i%api.MaxClients, 1+i/api.MaxClients, fmt.Sprint("body ", i)))
	}
	return l
}

func sameNumber(a, b api.Request) bool {
	return a.Client == b.Client && a.Seq == b.Seq
}

// has tells whether a request of that number is in a list.
func has(l []api.Request, x api.Request) bool {
	return slices.ContainsFunc(l, func(r api.Request) bool { return sameNumber(r, x) })
}

// without is a list but those of these numbers.
func without(l, but []api.Request) []api.Request {
	var rest []api.Request
	for _, r := range l {
		if !has(but, r) {
			rest = append(rest, r)
		}
	}
	return rest
}

func add(t *testing.T, p *pool.Pool, want api.Errno, l ...api.Request) {
	t.Helper()
	for _, r := range l {
		if e := p.Add(r); e != want {
			t.Errorf("Add %v: %d, not %d", r, e, want)
		}
	}
}

// pooled is a pool of these requests.
func pooled(t *testing.T, l ...api.Request) *pool.Pool {
	t.Helper()
	p := pool.New()
	add(t, p, api.OK, l...)
	return p
}

func take(t *testing.T, p *pool.Pool, n int, but, want []api.Request) {
	t.Helper()
	if got := p.Take(n, but); !slices.Equal(got, want) {
		t.Errorf("Take(%d, %v): %v, not %v", n, but, got, want)
	}
}

// check asks for all that is told of a pool: just these wait.
func check(t *testing.T, p *pool.Pool, l ...api.Request) {
	t.Helper()
	if p.Len() != len(l) {
		t.Errorf("Len %d, not %d", p.Len(), len(l))
	}
	if got := p.All(); !slices.Equal(got, l) {
		t.Errorf("All %v, not %v", got, l)
	}
	for n := range len(l) + 2 {
		take(t, p, n, nil, l[:min(n, len(l))])
	}
	for client := -1; client <= api.MaxClients; client++ {
		for seq := -1; seq <= 6; seq++ {
			checkHas(t, p, client, seq, l)
		}
	}
	for _, r := range l {
		checkHas(t, p, r.Client, r.Seq, l)
		checkHas(t, p, r.Client, r.Seq-1, l)
		checkHas(t, p, r.Client, r.Seq+1, l)
	}
}

func checkHas(t *testing.T, p *pool.Pool, client, seq int, l []api.Request) {
	t.Helper()
	if got, want := p.Has(client, seq), has(l, request(client, seq, "")); got != want {
		t.Errorf("Has(%d, %d): %v, not %v", client, seq, got, want)
	}
}

// refused asks for that error, and that all is as it was.
func refused(t *testing.T, p *pool.Pool, want api.Errno, l ...api.Request) {
	t.Helper()
	was := p.All()
	for _, r := range l {
		add(t, p, want, r)
		check(t, p, was...)
	}
}

func TestExample(t *testing.T) {
	r := request(1, 2, "a")
	p := pooled(t, r)
	check(t, p, r)
	p.Done(list(r))
	check(t, p)
	refused(t, p, api.ErrOld, r)
}

func TestNew(t *testing.T) {
	p := pool.New()
	if p == nil || p.Len() != 0 || len(p.All()) != 0 || len(p.Take(3, nil)) != 0 {
		t.Error("something waits")
	}
	check(t, p)
	for _, n := range []int{math.MinInt, -1, 0, 1, math.MaxInt} {
		take(t, p, n, nil, nil)
		take(t, p, n, many(5), nil)
	}
}

// A pool that New hasn't made is as a new one.
func TestZero(t *testing.T) {
	var p, q, r pool.Pool
	check(t, &p)
	add(t, &p, api.OK, many(2)...)
	check(t, &p, many(2)...)
	q.Done(many(1))
	check(t, &q)
	refused(t, &q, api.ErrOld, many(1)...)
	take(t, &r, 5, many(1), nil)
	refused(t, &r, api.ErrArg, api.Request{})
}

// Requests one by one, of several clients, in whatever order of Seqs: they
// wait as they come.
func TestOneByOne(t *testing.T) {
	for _, l := range [][]api.Request{
		many(api.MaxPool),
		list(request(1, 1, "a"), request(1, 2, "b"), request(1, 3, "c")),
		list(request(1, 3, "c"), request(1, 1, "b"), request(1, 2, "a")),
		list(request(3, 5, "z"), request(0, 5, "y"), request(2, 5, "x"), request(1, 5, "w")),
		list(request(2, maxSeq, "last"), request(0, 1, ""), request(2, 1, ""), request(0, maxSeq, "last"), request(3, 4, "")),
		list(request(0, 9, "same"), request(3, 1, "same"), request(0, 4, "same"), request(0, 8, "same")),
	} {
		p := pool.New()
		for i, r := range l {
			add(t, p, api.OK, r)
			check(t, p, l[:i+1]...)
		}
	}
}

func TestClient(t *testing.T) {
	for client := range api.MaxClients {
		check(t, pooled(t, request(client, 1, "a")), request(client, 1, "a"))
	}
	waits := many(3)
	p := pooled(t, waits...)
	for _, client := range []int{api.MaxClients, api.MaxClients + 1, -1, -2, -api.MaxClients, 255, 256, 1 << 31, 1 << 32, 1<<32 + 1, -1 << 32, 1 - 1<<32, math.MaxInt, math.MinInt} {
		refused(t, p, api.ErrArg, request(client, 1, "a"), request(client, 2, ""), request(client, maxSeq, "a"))
	}
}

func TestSeq(t *testing.T) {
	for _, seq := range []int{1, 2, 255, 256, 1 << 16, 1 << 30, maxSeq - 1, maxSeq} {
		check(t, pooled(t, request(2, seq, "a")), request(2, seq, "a"))
	}
	waits := many(3)
	p := pooled(t, waits...)
	for _, seq := range []int{0, -1, -2, -maxSeq, maxSeq + 1, maxSeq + 2, 1 << 32, 1<<32 + 1, 1<<32 - 1, -1 << 32, 1 - 1<<32, math.MaxInt, math.MinInt} {
		refused(t, p, api.ErrArg, request(0, seq, ""), request(3, seq, "a"))
	}
}

// The length is that in bytes, whatever they are.
func TestBody(t *testing.T) {
	p := pool.New()
	var waits []api.Request
	for i, body := range []string{"", "\x00", strings.Repeat("x", api.MaxBody-1), strings.Repeat("x", api.MaxBody), strings.Repeat("\xff", api.MaxBody), strings.Repeat("é", api.MaxBody/2), strings.Repeat("\x00", api.MaxBody)} {
		waits = append(waits, request(i%2, 1+i, body))
		add(t, p, api.OK, waits[i])
		check(t, p, waits...)
	}
	for _, body := range []string{strings.Repeat("x", api.MaxBody+1), strings.Repeat("\x00", api.MaxBody+1), strings.Repeat("é", api.MaxBody/2) + "x", strings.Repeat("é", api.MaxBody), strings.Repeat("x", 256), strings.Repeat("x", 1<<16)} {
		refused(t, p, api.ErrArg, request(3, 1, body))
	}
	add(t, p, api.OK, request(3, 1, ""))
}

// Of each error the least that has it, in a pool that is as small as may be.
func TestLeast(t *testing.T) {
	refused(t, pool.New(), api.ErrArg, request(-1, 1, ""), request(api.MaxClients, 1, ""), request(0, 0, ""), request(0, maxSeq+1, ""), request(0, 1, strings.Repeat("x", api.MaxBody+1)))
	p := pool.New()
	p.Done(list(request(0, 1, "")))
	refused(t, p, api.ErrOld, request(0, 1, ""))
	refused(t, pooled(t, request(0, 1, "")), api.ErrKnown, request(0, 1, ""))
	refused(t, pooled(t, many(api.MaxPool)...), api.ErrBusy, many(api.MaxPool + 1)[api.MaxPool])
}

// One client and Seq waits once, whatever its Body, and as it came first.
func TestKnown(t *testing.T) {
	waits := many(6)
	p := pooled(t, waits...)
	for _, r := range waits {
		refused(t, p, api.ErrKnown, r, request(r.Client, r.Seq, "another"), request(r.Client, r.Seq, ""), request(r.Client, r.Seq, strings.Repeat("x", api.MaxBody)))
	}
	add(t, p, api.OK, request(1, 3, waits[1].Body), request(2, 3, waits[1].Body))
	check(t, p, append(waits, request(1, 3, waits[1].Body), request(2, 3, waits[1].Body))...)
}

// A client's Seq is done alone: no lesser one, no greater one, nor another
// client's.
func TestOld(t *testing.T) {
	for _, seq := range []int{1, 2, 5, maxSeq} {
		p := pool.New()
		p.Done(list(request(2, seq, "a")))
		refused(t, p, api.ErrOld, request(2, seq, "a"), request(2, seq, ""), request(2, seq, "b"), request(2, seq, strings.Repeat("x", api.MaxBody)))
		var waits []api.Request
		for _, r := range list(request(2, seq-1, "a"), request(2, seq+1, "a"), request(1, seq, "a"), request(3, seq, "a"), request(0, seq, "a")) {
			if r.Seq >= 1 && r.Seq <= maxSeq {
				add(t, p, api.OK, r)
				waits = append(waits, r)
			}
		}
		check(t, p, waits...)
	}
}

func TestBounds(t *testing.T) {
	l := many(api.MaxPool + 2)
	p := pooled(t, l[:api.MaxPool-1]...)
	check(t, p, l[:api.MaxPool-1]...)
	add(t, p, api.OK, l[api.MaxPool-1])
	check(t, p, l[:api.MaxPool]...)
	refused(t, p, api.ErrBusy, l[api.MaxPool], l[api.MaxPool+1], request(0, maxSeq, ""), request(3, 100, strings.Repeat("x", api.MaxBody)))
}

// All of one client fill it as well.
func TestBoundsOfOneClient(t *testing.T) {
	var l []api.Request
	for i := range api.MaxPool {
		l = append(l, request(3, api.MaxPool-i, ""))
	}
	p := pooled(t, l...)
	check(t, p, l...)
	refused(t, p, api.ErrBusy, request(3, api.MaxPool+1, ""), request(0, 1, ""))
}

// There is room again for as many as are done of those that wait.
func TestRoomAgain(t *testing.T) {
	l := many(3 * api.MaxPool)
	for n := range api.MaxPool + 1 {
		p := pooled(t, l[:api.MaxPool]...)
		refused(t, p, api.ErrBusy, l[api.MaxPool])
		p.Done(l[:n])
		check(t, p, l[n:api.MaxPool]...)
		add(t, p, api.OK, l[api.MaxPool:api.MaxPool+n]...)
		check(t, p, l[n:api.MaxPool+n]...)
		refused(t, p, api.ErrBusy, l[api.MaxPool+n])
	}
}

// What is done and didn't wait makes no room, and takes none.
func TestNoRoomByMarks(t *testing.T) {
	l := many(5 * api.MaxPool)
	p := pooled(t, l[:api.MaxPool-1]...)
	p.Done(l[api.MaxPool : 4*api.MaxPool])
	check(t, p, l[:api.MaxPool-1]...)
	add(t, p, api.OK, l[api.MaxPool-1])
	refused(t, p, api.ErrBusy, l[4*api.MaxPool:]...)
}

// Where two errors fit, the one that is named first.
func TestFirstError(t *testing.T) {
	long := strings.Repeat("x", api.MaxBody+1)
	l := many(api.MaxPool + 2)
	full, old, free := l[:api.MaxPool], l[api.MaxPool], l[api.MaxPool+1]
	p := pooled(t, full...)
	impossible := list(request(-1, 1, ""), request(api.MaxClients, 1, ""), request(0, 0, ""), request(0, maxSeq+1, ""))
	p.Done(append(list(old), impossible...))
	tooLong := list(request(old.Client, old.Seq, long), request(full[0].Client, full[0].Seq, long), request(free.Client, free.Seq, long), request(-1, 0, long))
	refused(t, p, api.ErrArg, impossible...)
	refused(t, p, api.ErrArg, tooLong...)
	refused(t, p, api.ErrOld, old)
	refused(t, p, api.ErrKnown, full...)
	refused(t, p, api.ErrBusy, free)
	p.Done(full[:1])
	refused(t, p, api.ErrArg, impossible...)
	refused(t, p, api.ErrArg, tooLong...)
	refused(t, p, api.ErrOld, old, full[0])
	refused(t, p, api.ErrKnown, full[1:]...)
	add(t, p, api.OK, free)
	check(t, p, append(slices.Clone(full[1:]), free)...)
}

// What was refused isn't there later either: it may come again.
func TestRefusedMayComeAgain(t *testing.T) {
	l := many(api.MaxPool + 3)
	p := pooled(t, l[:api.MaxPool]...)
	late := l[api.MaxPool:]
	refused(t, p, api.ErrBusy, late...)
	refused(t, p, api.ErrArg, request(late[0].Client, late[0].Seq, strings.Repeat("x", api.MaxBody+1)))
	p.Done(l[2:5])
	add(t, p, api.OK, late...)
	check(t, p, slices.Concat(l[:2], l[5:api.MaxPool], late)...)
}

func TestHasWhatCannotBe(t *testing.T) {
	waits := list(request(0, 1, "a"), request(1, 2, "b"), request(3, maxSeq, "c"))
	p := pooled(t, waits...)
	p.Done(list(request(-1, 1, ""), request(0, 0, ""), request(9, 9, "")))
	for _, x := range list(request(0, 0, ""), request(-1, 1, ""), request(api.MaxClients, 1, ""), request(0, -1, ""), request(3, maxSeq+1, ""), request(9, 9, ""),
		request(1<<32, 1, ""), request(0, 1<<32+1, ""), request(1+1<<32, 2, ""), request(1, 2-1<<32, ""), request(math.MaxInt, math.MaxInt, ""), request(math.MinInt, math.MinInt, "")) {
		if p.Has(x.Client, x.Seq) {
			t.Errorf("Has(%d, %d)", x.Client, x.Seq)
		}
	}
	check(t, p, waits...)
}
