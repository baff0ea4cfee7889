package ledger_test

import (
	"fmt"
	"math"
	"math/rand/v2"
	"slices"
	"testing"

	"comitia/api"
	"comitia/ledger"
)

// A plain ledger does what the chapter says, word by word: it looks through
// all entries, each time.
type plain struct {
	entries []api.Request
}

func (p *plain) apply(batch []api.Request) []int {
	var indexes []int
	for _, r := range batch {
		i := indexOf(p.entries, r.Client, r.Seq)
		if i < 0 {
			i = len(p.entries)
			p.entries = append(p.entries, r)
		}
		indexes = append(indexes, i)
	}
	return indexes
}

// All batches of at most three of five requests, and behind each all of at
// most two.
func TestWhateverTwoBatches(t *testing.T) {
	of := list(request(0, 1, "a"), request(0, 1, "b"), request(0, 2, "a"), request(1, 1, "a"), request(-1, 1, "a"))
	batches := batchesOf(of, 3)
	if len(batches) != 1+5+25+125 {
		t.Fatal("that is no trial", len(batches))
	}
	for _, first := range batches {
		for _, second := range batchesOf(of, 2) {
			l, p := ledger.New(), &plain{}
			apply(t, l, p.apply(first), first...)
			apply(t, l, p.apply(second), second...)
			check(t, l, p.entries...)
			if t.Failed() {
				t.Fatal(first, second)
			}
		}
	}
}

// batchesOf are all lists of at most so many of these.
func batchesOf(of []api.Request, most int) [][]api.Request {
	all := [][]api.Request{nil}
	if most == 0 {
		return all
	}
	for _, rest := range batchesOf(of, most-1) {
		for _, r := range of {
			all = append(all, append(slices.Clone(rest), r))
		}
	}
	return all
}

func someNumber(r *rand.Rand, numbers int) int {
	if r.IntN(12) > 0 {
		return r.IntN(numbers)
	}
	odd := []int{-1, 1 << 31, 1 << 32, 1<<32 + 1, math.MinInt, math.MaxInt, math.MaxInt32}
	return odd[r.IntN(len(odd))]
}

func someBatch(r *rand.Rand, seqs int) []api.Request {
	var batch []api.Request
	for range r.IntN(5) {
		body := fmt.Sprint(r.IntN(1000))[r.IntN(2):]
		batch = append(batch, request(someNumber(r, api.MaxClients), someNumber(r, seqs), body))
	}
	return batch
}

// Whatever batches, at random, of few Seqs and of many.
func TestWhateverBatches(t *testing.T) {
	r := rand.New(rand.NewPCG(13, 1))
	fresh, known := 0, 0
	for range 100 {
		seqs := []int{1, 3, 10, 100}[r.IntN(4)]
		l, p := ledger.New(), &plain{}
		for range 25 {
			batch := someBatch(r, seqs)
			was := len(p.entries)
			apply(t, l, p.apply(batch), batch...)
			check(t, l, p.entries...)
			fresh += len(p.entries) - was
			known += len(batch) - (len(p.entries) - was)
			if t.Failed() {
				t.FailNow()
			}
		}
	}
	if fresh < 500 || known < 500 {
		t.Error("that is no trial", fresh, known)
	}
}
