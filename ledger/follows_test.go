package ledger_test

import (
	"math/rand/v2"
	"slices"
	"testing"

	"comitia/api"
	"comitia/ledger"
)

// What is applied again changes nothing, and is told its first index: in the
// same batches or in others, with the same Bodies or with others.
func TestAgain(t *testing.T) {
	all := many(10)
	l := ledger.New()
	for batch := range slices.Chunk(all, 3) {
		l.Apply(batch)
	}
	others := many(10)
	for i := range others {
		others[i].Body = []string{"", "other", all[(i+1)%10].Body}[i%3]
	}
	for size := 1; size <= len(all); size++ {
		for _, again := range [][]api.Request{all, others} {
			n := 0
			for batch := range slices.Chunk(again, size) {
				apply(t, l, rising(n, len(batch)), batch...)
				n += len(batch)
				check(t, l, all...)
			}
		}
	}
}

// Again in whatever order, and more than once in a batch.
func TestAgainInWhateverOrder(t *testing.T) {
	r := rand.New(rand.NewPCG(13, 2))
	all := many(10)
	l := filled(t, all...)
	for range 300 {
		var batch []api.Request
		var want []int
		for range r.IntN(15) {
			i := r.IntN(len(all))
			batch = append(batch, request(all[i].Client, all[i].Seq, []string{all[i].Body, "", "z"}[r.IntN(3)]))
			want = append(want, i)
		}
		apply(t, l, want, batch...)
	}
	check(t, l, all...)
}

// Entries stay at their indexes, whatever is applied then.
func TestEntriesStay(t *testing.T) {
	r := rand.New(rand.NewPCG(13, 3))
	for range 40 {
		l := ledger.New()
		var was []api.Request
		more, again := 0, 0
		for range 60 {
			batch := someBatch(r, 40)
			indexes := l.Apply(batch)
			now := l.Entries()
			if len(now) < len(was) || !slices.Equal(now[:len(was)], was) {
				t.Fatalf("%v, not begun with %v", now, was)
			}
			for i, x := range batch {
				e, ok := l.At(indexes[i])
				if !ok || e.Client != x.Client || e.Seq != x.Seq {
					t.Fatalf("%v is told %d, which is %v", x, indexes[i], e)
				}
				if indexes[i] < len(was) {
					again++
				}
			}
			more += len(now) - len(was)
			was = now
		}
		check(t, l, was...)
		if more < 30 || again < 10 {
			t.Fatal("that is no trial", more, again)
		}
	}
}

// No client's number is executed twice.
func TestOnce(t *testing.T) {
	r := rand.New(rand.NewPCG(13, 4))
	for range 40 {
		l := ledger.New()
		for range 100 {
			l.Apply(someBatch(r, 12))
		}
		for i, x := range l.Entries() {
			if got, ok := l.Index(x.Client, x.Seq); got != i || !ok {
				t.Fatalf("%v is at %d, and at %d", x, i, got)
			}
		}
	}
}
