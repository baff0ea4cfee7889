package ledger_test

import (
	"slices"
	"testing"

	"comitia/api"
	"comitia/ledger"
)

// spoil writes over a list, and over its spare room.
func spoil(l []api.Request) {
	for i := range cap(l) {
		l[:cap(l)][i] = request(2, 1000+i, "spoilt")
	}
}

func spoilIndexes(l []int) {
	for i := range cap(l) {
		l[:cap(l)][i] = 1000 + i
	}
}

// roomy is a list with spare room, in which something stands.
func roomy(l []api.Request) []api.Request {
	x := append(slices.Clone(l), request(3, 1, "spare"), request(0, 1, "spare"), request(1, 7, "spare"))
	return x[:len(l)]
}

// The batch that was handed in may be written over, and what was answered, too.
func TestApplyKeepsNothing(t *testing.T) {
	all := many(9)
	l := ledger.New()
	n := 0
	for size := range 5 {
		next := min(n+size, len(all))
		batch := roomy(all[n:next])
		indexes := l.Apply(batch)
		spoil(batch)
		check(t, l, all[:next]...)
		spoilIndexes(indexes)
		_ = append(indexes, 77)
		check(t, l, all[:next]...)
		n = next
	}
	again := roomy(all)
	spoilIndexes(l.Apply(again))
	spoil(again)
	check(t, l, all...)
	apply(t, l, rising(0, len(all)), all...)
}

// The batch is left as it is, its spare room, too: in whatever order it
// stands, with some that are there, and one that comes twice.
func TestBatchIsLeft(t *testing.T) {
	all := many(9)
	l := filled(t, all[:3]...)
	batch := roomy(list(all[6], all[2], all[4], all[4], request(-1, 0, "odd"), all[0], request(0, 1, "other")))
	was := slices.Clone(batch[:cap(batch)])
	for range 2 {
		apply(t, l, []int{3, 2, 4, 4, 5, 0, 0}, batch...)
		spoil(l.Entries())
		l.Apply(all)
		if !slices.Equal(batch[:cap(batch)], was) {
			t.Errorf("%v", batch[:cap(batch)])
		}
	}
}

// What Entries answered may be written over, and may grow.
func TestEntriesAreNew(t *testing.T) {
	all := many(20)
	for n := range len(all) {
		l := filled(t, all[:n]...)
		x := l.Entries()
		spoil(x)
		_ = append(l.Entries(), request(1, 500, "mine"))
		check(t, l, all[:n]...)
		apply(t, l, []int{n}, all[n])
		check(t, l, all[:n+1]...)
	}
}

// Answers share nothing with one another.
func TestAnswersAreApart(t *testing.T) {
	all := many(6)
	l := ledger.New()
	i, j := l.Apply(all), l.Apply(all)
	a, b := l.Entries(), l.Entries()
	spoilIndexes(i)
	spoil(a)
	if !slices.Equal(j, rising(0, 6)) || !slices.Equal(b, all) {
		t.Errorf("%v, %v", j, b)
	}
	if !slices.Equal(all, many(6)) {
		t.Errorf("%v", all)
	}
}

// What was answered stays, whatever is applied behind it.
func TestAnswersStay(t *testing.T) {
	all := many(40)
	for n := range 20 {
		l := ledger.New()
		indexes := l.Apply(all[:n])
		entries := l.Entries()
		h, _ := l.Digest(n)
		wasIndexes, was := slices.Clone(indexes), slices.Clone(entries)
		for i := range 20 {
			l.Apply(all[n+i : n+i+1])
			l.Apply(all[:i])
		}
		if !slices.Equal(indexes, wasIndexes) || !slices.Equal(entries, was) {
			t.Errorf("%v, %v", indexes, entries)
		}
		checkDigest(t, l, n, append(make([]api.Hash, n), h))
	}
}

// A ledger's own entries may be handed to it, and to another one.
func TestEntriesHandedIn(t *testing.T) {
	all := many(5)
	l, m := filled(t, all...), ledger.New()
	x := l.Entries()
	apply(t, l, rising(0, 5), x...)
	apply(t, m, rising(0, 5), x...)
	spoil(x)
	check(t, l, all...)
	check(t, m, all...)
}

// Two ledgers don't hang on one another.
func TestLedgersAreApart(t *testing.T) {
	all := many(8)
	a, b := ledger.New(), ledger.New()
	if a == b {
		t.Fatal("one ledger")
	}
	apply(t, a, []int{0, 1, 2}, all[:3]...)
	check(t, b)
	apply(t, b, []int{0, 1}, all[2], all[0])
	check(t, a, all[:3]...)
	apply(t, a, []int{3, 0}, all[5], all[0])
	apply(t, b, []int{2, 0, 3}, all[7], all[2], request(1, 1, "other"))
	check(t, a, all[0], all[1], all[2], all[5])
	check(t, b, all[2], all[0], all[7], request(1, 1, "other"))
	check(t, ledger.New())
}
