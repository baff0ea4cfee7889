package tally_test

import (
	"math/rand/v2"
	"testing"

	"comitia/api"
	"comitia/cert"
)

// A witness sees that each certificate that is told holds for the node, has
// just a quorum, and that of one view no other block, and no other time, has
// one.
type witness struct {
	reader
	of map[int]api.Hash // by views
}

func (w *witness) add(view int, block api.Hash, s api.Sig) {
	w.t.Helper()
	c, ok := w.Add(view, block, s)
	if !ok {
		return
	}
	if !cert.Holds(seed, w.to, w.n, c) || c.View != view || c.Block != block {
		w.t.Errorf("%v doesn't hold for %d of %d", c, w.to, w.n)
	}
	if got := len(cert.Good(seed, w.to, w.n, c)); got != quorums[w.n] || len(c.Sigs) != got {
		w.t.Errorf("%v has %d good signatures", c, got)
	}
	if h, there := w.of[view]; there {
		w.t.Errorf("the view %d has a certificate of %x, and of %x", view, h, block)
	}
	w.of[view] = block
}

func newWitness(t *testing.T, to, n int) *witness {
	return &witness{newReader(t, to, n), map[int]api.Hash{}}
}

// Four nodes, all of which vote for two blocks in one view: all lists of five
// such votes.
func TestTwoBlocksOfLiars(t *testing.T) {
	var votes []came
	for _, block := range []api.Hash{a, b} {
		for from := range 4 {
			votes = append(votes, came{3, block, voteOf(from, 4, 3, block)})
		}
	}
	certs := 0
	for which := range 8 * 8 * 8 * 8 * 8 {
		w := newWitness(t, which%4, 4)
		for rest := which; rest > 0; rest /= 8 {
			v := votes[rest%8]
			w.add(v.view, v.block, v.sig)
		}
		certs += len(w.of)
		if t.Failed() {
			t.Fatalf("%o", which)
		}
	}
	if certs < 5000 {
		t.Error("that is no trial", certs)
	}
}

// Whatever votes come, of nodes that vote for whatever, in whatever order,
// more than once, with wrong ones among them, and with views let go between.
func TestOneCertificateAView(t *testing.T) {
	r := rand.New(rand.NewPCG(14, 3))
	certs := 0
	for range 400 {
		n := 1 + r.IntN(api.MaxNodes)
		views := 1 + r.IntN(8)
		w := newWitness(t, r.IntN(n), n)
		for range 150 {
			v := someVote(r, n, views)
			w.add(v.view, v.block, v.sig)
			if r.IntN(40) == 0 {
				w.Below(r.IntN(views) - 1)
			}
		}
		certs += len(w.of)
		if t.Failed() {
			t.FailNow()
		}
	}
	if certs < 400 {
		t.Error("that is no trial", certs)
	}
}

// Of one view no two nodes are told certificates of two blocks, if no more
// nodes than may be bad vote for both.
func TestOneBlockForAll(t *testing.T) {
	r := rand.New(rand.NewPCG(14, 4))
	certs := 0
	for range 300 {
		n := 1 + r.IntN(api.MaxNodes)
		bad := r.IntN((n-1)/3 + 1)
		vote := make([]api.Hash, n)
		for from := range vote {
			vote[from] = []api.Hash{a, a, b}[r.IntN(3)]
		}
		told := map[api.Hash]int{}
		for to := range n {
			w := newWitness(t, to, n)
			for _, from := range r.Perm(n) {
				block := vote[from]
				if from < bad {
					block = []api.Hash{a, b}[to%2]
				}
				w.add(2, block, voteOf(from, n, 2, block))
			}
			if h, ok := w.of[2]; ok {
				told[h]++
				certs++
			}
		}
		if len(told) > 1 {
			t.Fatal(n, bad, told)
		}
	}
	if certs < 200 {
		t.Error("that is no trial", certs)
	}
}
