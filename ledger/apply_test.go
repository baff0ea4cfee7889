package ledger_test

import (
	"encoding/binary"
	"fmt"
	"math"
	"slices"
	"strings"
	"testing"

	"comitia/api"
	"comitia/blake"
	"comitia/ledger"
)

func request(client, seq int, body string) api.Request {
	return api.Request{Client: client, Seq: seq, Body: body}
}

func list(l ...api.Request) []api.Request {
	return l
}

// many are so many requests of unlike numbers, of all clients in turn.
func many(n int) []api.Request {
	var l []api.Request
	for i := range n {
		l = append(l, request(i%api.MaxClients, 1+i/api.MaxClients, fmt.Sprint("body ", i)))
	}
	return l
}

// indexOf is where a list has that number, -1 if it hasn't.
func indexOf(l []api.Request, client, seq int) int {
	return slices.IndexFunc(l, func(r api.Request) bool { return r.Client == client && r.Seq == seq })
}

// number is a number's four bytes, by the chapter of wire.
func number(n int) string {
	if n < 0 || n > math.MaxInt32 {
		n = 0
	}
	return string(binary.BigEndian.AppendUint32(nil, uint32(n)))
}

// digests are the chapter's, behind none, one, two of the entries, and so on.
func digests(entries []api.Request) []api.Hash {
	h := blake.Sum("ledger")
	all := []api.Hash{h}
	for _, r := range entries {
		h = blake.Sum("E" + h + number(r.Client) + number(r.Seq) + number(len(r.Body)) + r.Body)
		all = append(all, h)
	}
	return all
}

// rising are so many indexes, from the first one on.
func rising(first, n int) []int {
	var l []int
	for i := range n {
		l = append(l, first+i)
	}
	return l
}

func apply(t *testing.T, l *ledger.Ledger, want []int, batch ...api.Request) {
	t.Helper()
	if got := l.Apply(batch); !slices.Equal(got, want) {
		t.Errorf("Apply %v: %v, not %v", batch, got, want)
	}
}

// filled is a ledger of these entries, which came one by one.
func filled(t *testing.T, entries ...api.Request) *ledger.Ledger {
	t.Helper()
	l := ledger.New()
	for i, r := range entries {
		apply(t, l, []int{i}, r)
	}
	return l
}

// check asks for all that is told of a ledger: just these are its entries.
func check(t *testing.T, l *ledger.Ledger, entries ...api.Request) {
	t.Helper()
	if l.Len() != len(entries) {
		t.Errorf("Len %d, not %d", l.Len(), len(entries))
	}
	if got := l.Entries(); !slices.Equal(got, entries) {
		t.Errorf("Entries %v, not %v", got, entries)
	}
	of := digests(entries)
	for i := -2; i < len(entries)+3; i++ {
		checkAt(t, l, i, entries)
		checkDigest(t, l, i, of)
	}
	for _, i := range []int{math.MinInt, math.MinInt32, 1 << 31, 1 << 32, 1<<32 + 1, math.MaxInt} {
		checkAt(t, l, i, entries)
		checkDigest(t, l, i, of)
	}
	for client := -1; client <= api.MaxClients; client++ {
		for seq := -1; seq <= 5; seq++ {
			checkIndex(t, l, client, seq, entries)
		}
	}
	for _, r := range entries {
		for d := -1; d <= 1; d++ {
			checkIndex(t, l, r.Client, r.Seq+d, entries)
			checkIndex(t, l, r.Client+d, r.Seq, entries)
		}
		checkIndex(t, l, r.Seq, r.Client, entries)
	}
}

func checkAt(t *testing.T, l *ledger.Ledger, i int, entries []api.Request) {
	t.Helper()
	var want api.Request
	there := i >= 0 && i < len(entries)
	if there {
		want = entries[i]
	}
	if got, ok := l.At(i); got != want || ok != there {
		t.Errorf("At(%d): %v, %v, not %v, %v", i, got, ok, want, there)
	}
}

func checkDigest(t *testing.T, l *ledger.Ledger, n int, of []api.Hash) {
	t.Helper()
	want, wantE := "", api.ErrNone
	if n >= 0 && n < len(of) {
		want, wantE = of[n], api.OK
	}
	if got, e := l.Digest(n); got != want || e != wantE {
		t.Errorf("Digest(%d): %x, %d, not %x, %d", n, got, e, want, wantE)
	}
}

func checkIndex(t *testing.T, l *ledger.Ledger, client, seq int, entries []api.Request) {
	t.Helper()
	want := indexOf(entries, client, seq)
	there := want >= 0
	if got, ok := l.Index(client, seq); got != max(want, 0) || ok != there {
		t.Errorf("Index(%d, %d): %d, %v, not %d, %v", client, seq, got, ok, max(want, 0), there)
	}
}

func TestExample(t *testing.T) {
	r := request(1, 2, "a")
	l := ledger.New()
	apply(t, l, []int{0, 0}, r, r)
	check(t, l, r)
}

func TestNew(t *testing.T) {
	l := ledger.New()
	check(t, l)
	checkIndex(t, l, 0, 0, nil)
	checkIndex(t, l, math.MinInt, math.MaxInt, nil)
	if r, ok := l.At(0); r != (api.Request{}) || ok {
		t.Error(r, ok)
	}
	if h, e := l.Digest(0); h != blake.Sum("ledger") || e != api.OK {
		t.Errorf("%x, %d", h, e)
	}
	if h, e := l.Digest(1); h != "" || e != api.ErrNone {
		t.Errorf("%x, %d", h, e)
	}
}

// A ledger that New hasn't made answers as a new one, whatever is asked first.
func TestZeroLedger(t *testing.T) {
	a, b := request(1, 1, "a"), request(0, 1, "b")
	check(t, &ledger.Ledger{})
	var first, second, third, fourth ledger.Ledger
	apply(t, &first, []int{0, 1}, a, b)
	check(t, &first, a, b)
	checkDigest(t, &second, 0, digests(nil))
	apply(t, &second, []int{0}, a)
	apply(t, &second, []int{1, 0}, b, a)
	check(t, &second, a, b)
	checkIndex(t, &third, 1, 1, nil)
	apply(t, &third, nil)
	check(t, &third)
	checkDigest(t, &fourth, 1, digests(nil))
	checkAt(t, &fourth, 0, nil)
	if x := fourth.Entries(); len(x) != 0 {
		t.Error(x)
	}
}

// A batch of no requests tells no index, and changes nothing.
func TestNoRequests(t *testing.T) {
	l := ledger.New()
	for n := range 4 {
		apply(t, l, nil)
		if x := l.Apply([]api.Request{}); len(x) != 0 {
			t.Error(x)
		}
		check(t, l, many(n)...)
		apply(t, l, []int{n}, many(n + 1)[n])
	}
}

// Batches of one, two, and more requests: all are entries, as they come.
func TestBatches(t *testing.T) {
	all := many(24)
	for size := 1; size <= len(all); size++ {
		l := ledger.New()
		n := 0
		for batch := range slices.Chunk(all, size) {
			apply(t, l, rising(n, len(batch)), batch...)
			n += len(batch)
			check(t, l, all[:n]...)
		}
	}
}

// Seqs are executed in whatever order they come.
func TestOrders(t *testing.T) {
	a := list(request(0, 9, "a"), request(0, 3, "b"), request(2, 5, "c"), request(0, 4, "d"), request(2, 1, "e"))
	l := ledger.New()
	apply(t, l, []int{0, 1, 2, 3, 4}, a...)
	check(t, l, a...)
	slices.Reverse(a)
	l = ledger.New()
	apply(t, l, []int{0, 1}, a[:2]...)
	apply(t, l, []int{2, 3, 4}, a[2:]...)
	check(t, l, a...)
}

// Behind what is there already, what is new has the next index, with no gap.
func TestSomeOfABatchAreThere(t *testing.T) {
	a := many(8)
	l := ledger.New()
	apply(t, l, []int{0, 1, 0, 2, 1, 2, 2}, a[0], a[1], a[0], a[2], a[1], a[2], a[2])
	check(t, l, a[:3]...)
	apply(t, l, []int{2, 3, 0, 3, 4, 1}, a[2], a[3], a[0], a[3], a[4], a[1])
	check(t, l, a[:5]...)
	apply(t, l, []int{4, 3, 2, 1, 0}, a[4], a[3], a[2], a[1], a[0])
	check(t, l, a[:5]...)
	apply(t, l, []int{5, 6, 7, 0}, a[5], a[6], a[7], a[0])
	check(t, l, a...)
}

// One client and Seq, again with another Body: the first one's entry stays.
func TestAnotherBody(t *testing.T) {
	first, other := request(1, 1, "first"), request(1, 1, "other")
	l := ledger.New()
	apply(t, l, []int{0, 0}, first, other)
	check(t, l, first)
	apply(t, l, []int{0}, other)
	apply(t, l, []int{0}, request(1, 1, ""))
	check(t, l, first)
	l = ledger.New()
	apply(t, l, []int{0}, request(1, 1, ""))
	apply(t, l, []int{0, 1, 0}, first, request(2, 1, "x"), other)
	check(t, l, request(1, 1, ""), request(2, 1, "x"))
}

// Apply asks nothing of requests: also those that aren't right are entries.
func TestWhateverNumbers(t *testing.T) {
	numbers := []int{0, 1, 2, 3, 4, 12, -1, -2, math.MinInt32, math.MaxInt32, 1 << 31, 1<<32 - 1, 1 << 32, 1<<32 + 1, 1<<33 + 2, -1 << 32, math.MinInt, math.MinInt + 1, math.MaxInt - 1, math.MaxInt}
	var all []api.Request
	for _, client := range numbers {
		for _, seq := range numbers {
			all = append(all, request(client, seq, "x"))
		}
	}
	l := filled(t, all...)
	if !slices.Equal(l.Entries(), all) {
		t.Errorf("%v", l.Entries())
	}
	of := digests(all)
	for i, r := range all {
		checkIndex(t, l, r.Client, r.Seq, all)
		checkAt(t, l, i, all)
		checkDigest(t, l, i+1, of)
		apply(t, l, []int{i}, request(r.Client, r.Seq, "y"))
	}
	if l.Len() != len(all) {
		t.Error(l.Len())
	}
}

// Of each of these pairs the bytes are the same, or might be where numbers are
// put together otherwise: both are entries.
func TestAlikeBytes(t *testing.T) {
	for _, pair := range [][2]api.Request{
		{request(-1, 1, "a"), request(0, 1, "a")},
		{request(0, 1<<31, ""), request(0, 0, "")},
		{request(1<<32+1, 5, "a"), request(1, 5, "a")},
		{request(1<<31, 5, "a"), request(1<<32, 5, "a")},
		{request(0, 1<<32, ""), request(1, 0, "")},
		{request(0, 1<<32+7, ""), request(1, 7, "")},
		{request(0, 1<<31, ""), request(1, 0, "")},
		{request(1, 12, "x"), request(11, 2, "x")},
		{request(1, 2, "x"), request(2, 1, "x")},
		{request(-1, 1, "x"), request(1, -1, "x")},
		{request(1, 0, ""), request(0, 1, "")},
		{request(3, 5, "x"), request(5, 3, "x")},
		{request(1, 2, "\x00\x00\x00\x01"), request(1, 0, "\x00\x00\x00\x02")},
	} {
		a, b := pair[0], pair[1]
		l := ledger.New()
		apply(t, l, []int{0, 1, 0, 1}, a, b, a, b)
		check(t, l, a, b)
		l = filled(t, b, a)
		apply(t, l, []int{1, 0}, a, b)
		check(t, l, b, a)
	}
}

// All fields zero is a request like others.
func TestZeroRequest(t *testing.T) {
	l := ledger.New()
	apply(t, l, []int{0, 0}, api.Request{}, api.Request{})
	check(t, l, api.Request{})
	if r, ok := l.At(0); r != (api.Request{}) || !ok {
		t.Error(r, ok)
	}
	if i, ok := l.Index(0, 0); i != 0 || !ok {
		t.Error(i, ok)
	}
	apply(t, l, []int{1, 0}, request(0, 1, ""), request(0, 0, "x"))
	check(t, l, api.Request{}, request(0, 1, ""))
}

// Bodies of whatever length, and whatever bytes.
func TestBodies(t *testing.T) {
	var all []api.Request
	for i, body := range []string{"", "\x00", "E", "ledger", "\xff\xfe", strings.Repeat("m", api.MaxBody), strings.Repeat("n", api.MaxBody+1), strings.Repeat("l", 1<<16+3), "ü"} {
		all = append(all, request(1, i, body))
	}
	l := ledger.New()
	apply(t, l, rising(0, len(all)), all...)
	check(t, l, all...)
}

func TestManyEntries(t *testing.T) {
	all := many(5000)
	l := ledger.New()
	n := 0
	for batch := range slices.Chunk(all, api.MaxBatch) {
		l.Apply(batch)
		n += len(batch)
		if l.Len() != n {
			t.Fatal(l.Len(), n)
		}
	}
	if !slices.Equal(l.Entries(), all) {
		t.Error("Entries")
	}
	for i, h := range digests(all) {
		if got, e := l.Digest(i); got != h || e != api.OK {
			t.Fatal(i, e)
		}
		if i < len(all) {
			checkAt(t, l, i, all)
			apply(t, l, []int{i}, request(all[i].Client, all[i].Seq, "again"))
		}
	}
	if l.Len() != len(all) {
		t.Error(l.Len())
	}
}
