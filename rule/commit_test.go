package rule_test

import (
	"math"
	"math/rand/v2"
	"testing"

	"comitia/api"
	"comitia/block"
	"comitia/cert"
	"comitia/forest"
	"comitia/rule"
)

func checkCommit(t *testing.T, f *forest.Forest, c api.Cert, want api.Block) {
	t.Helper()
	if h, ok := rule.Commit(f, c); !ok || h != block.Digest(want) {
		t.Errorf("of the view %d: %.4x %v, not %.4x", c.View, h, ok, block.Digest(want))
	}
	for _, c := range others(c) {
		checkNoCommit(t, f, c)
	}
}

func checkNoCommit(t *testing.T, f *forest.Forest, c api.Cert) {
	t.Helper()
	if h, ok := rule.Commit(f, c); ok || h != "" {
		t.Errorf("of the view %d: %.4x %v", c.View, h, ok)
	}
}

// Three blocks, one view behind the other: the first one is committed.
func TestCommitOfThree(t *testing.T) {
	for _, first := range []int{1, 2, 9, api.MaxView - 2, api.MaxView - 1, api.MaxView, 1<<31 - 2, math.MaxInt - 2, 0, -1, -2, math.MinInt} {
		l := chain(first, first+1, first+2)
		f := grown(t, l...)
		checkNoCommit(t, f, certOf(l[0]))
		checkNoCommit(t, f, certOf(l[1]))
		checkCommit(t, f, certOf(l[2]), l[0])
	}
}

func TestCommitAlongAChain(t *testing.T) {
	l := chain(1, 2, 3, 4, 5, 6, 7)
	f := grown(t, l...)
	for i, b := range l {
		if i < 2 {
			checkNoCommit(t, f, certOf(b))
		} else {
			checkCommit(t, f, certOf(b), l[i-2])
		}
	}
}

// Views that leave one out: no matter what the first block stands on.
func TestCommitWithViewsLeftOut(t *testing.T) {
	for _, x := range []struct {
		views []int
		want  bool
	}{
		{[]int{1, 2, 3}, true}, {[]int{1, 2, 4}, false}, {[]int{1, 3, 4}, false}, {[]int{1, 3, 5}, false},
		{[]int{1, 2, 100}, false}, {[]int{1, 100, 101}, false}, {[]int{5, 6, 7}, true}, {[]int{5, 6, 8}, false}, {[]int{5, 7, 8}, false},
		{[]int{1, 5, 6, 7}, true}, {[]int{1, 2, 5, 6, 7}, true}, {[]int{1, 2, 3, 5, 6}, false}, {[]int{1, 2, 3, 4, 6}, false}, {[]int{1, 2, 3, 5, 7}, false},
		{[]int{api.MaxView - 3, api.MaxView - 2, api.MaxView}, false}, {[]int{api.MaxView - 3, api.MaxView - 1, api.MaxView}, false},
		{[]int{math.MinInt, 0, math.MaxInt}, false}, {[]int{math.MinInt, math.MaxInt - 1, math.MaxInt}, false},
		{[]int{math.MinInt, math.MinInt + 1, math.MaxInt}, false},
	} {
		l := chain(x.views...)
		f := grown(t, l...)
		last := certOf(l[len(l)-1])
		if x.want {
			checkCommit(t, f, last, l[len(l)-3])
		} else {
			checkNoCommit(t, f, last)
		}
	}
}

// The root is no block that stands: neither it is committed, nor aught by its
// children's, or their children's certificates.
func TestCommitAtTheRoot(t *testing.T) {
	l := chain(1, 2)
	side := on(l[0], 2, 1)
	f := grown(t, append(l, side)...)
	for _, f := range []*forest.Forest{f, forest.New(), {}} {
		for _, c := range []api.Cert{{}, cert.First(), {View: 1, Block: block.First()}, {View: 2, Block: block.First()}, certOf(l[0]), certOf(l[1]), certOf(side)} {
			checkNoCommit(t, f, c)
		}
		for _, c := range others(certOf(l[1])) {
			checkNoCommit(t, f, c)
		}
	}
}

// Each branch is for itself: it is parents that count, not views.
func TestCommitOnBranches(t *testing.T) {
	a, b := root(1, 0), root(1, 1)
	a1, b1 := on(a, 2, 0), on(b, 2, 0)
	a11, b11, late := on(a1, 3, 0), on(b1, 3, 0), on(a1, 4, 0)
	a111, b111, onLate := on(a11, 4, 0), on(b11, 5, 0), on(late, 5, 0)
	onOnLate := on(onLate, 6, 0)
	all := []api.Block{a, b, a1, b1, a11, b11, late, a111, b111, onLate, onOnLate}
	f := grown(t, all...)
	for _, x := range []struct {
		b, want *api.Block
	}{{&a, nil}, {&b, nil}, {&a1, nil}, {&b1, nil}, {&a11, &a}, {&b11, &b}, {&late, nil}, {&a111, &a1}, {&b111, nil}, {&onLate, nil}, {&onOnLate, &late}} {
		if x.want == nil {
			checkNoCommit(t, f, certOf(*x.b))
		} else {
			checkCommit(t, f, certOf(*x.b), *x.want)
		}
	}
}

// Orphans aren't there, be they three whose views follow each other.
func TestCommitOfOrphans(t *testing.T) {
	l := chain(1, 2, 3, 4, 5)
	f := grown(t, l[1:]...)
	for _, b := range l {
		checkNoCommit(t, f, certOf(b))
	}
	f = grown(t, l[0], l[1], l[3], l[4])
	for _, b := range l {
		checkNoCommit(t, f, certOf(b))
	}
	if e := f.Put(l[2]); e != api.OK {
		t.Fatal(e)
	}
	checkCommit(t, f, certOf(l[2]), l[0])
	checkCommit(t, f, certOf(l[3]), l[1])
	checkCommit(t, f, certOf(l[4]), l[2])
}

// Behind a pruning the parent, or its parent, is the root, or has gone.
func TestCommitBehindAPruning(t *testing.T) {
	l := chain(1, 2, 3, 4, 5, 6)
	side := on(l[0], 2, 1)
	onSide := on(side, 3, 1)
	for at := range l {
		f := grown(t, append(l, side, onSide)...)
		prune(t, f, l[at])
		for i, b := range l {
			if i >= at+3 {
				checkCommit(t, f, certOf(b), l[i-2])
			} else {
				checkNoCommit(t, f, certOf(b))
			}
		}
		checkNoCommit(t, f, certOf(side))
		checkNoCommit(t, f, certOf(onSide))
		checkNoCommit(t, f, cert.First())
	}
	f := grown(t, append(l, side, onSide)...)
	checkCommit(t, f, certOf(onSide), l[0])
	if e := f.Prune(block.First()); e != api.OK {
		t.Fatal(e)
	}
	checkCommit(t, f, certOf(onSide), l[0])
	checkCommit(t, f, certOf(l[5]), l[3])
	prune(t, f, onSide)
	for _, b := range append(l, side, onSide) {
		checkNoCommit(t, f, certOf(b))
	}
}

// Whose signatures the certificate has, or those of the blocks, is all one.
func TestCommitWithWhateverSignatures(t *testing.T) {
	a := roomy(1, cert.First())
	b := roomy(2, certOf(a))
	c := roomy(3, certOf(b))
	f := grown(t, a, b, c)
	for _, sigs := range [][]api.Sig{nil, {}, {{From: 1}}, {{From: 9, Tags: []string{"t"}}, {From: -1}}, make([]api.Sig, 20)} {
		x := certOf(c)
		x.Sigs = sigs
		checkCommit(t, f, x, a)
	}
}

// A random forest: of each block what the chapter says, told by lists.
func TestRandomForests(t *testing.T) {
	r := rand.New(rand.NewPCG(8, 8))
	for range 100 {
		l, parents := []api.Block{root(1, 0)}, []int{-1}
		for mark := 1; mark < 30; mark++ {
			at := r.IntN(len(l)+1) - 1
			b := root(1+r.IntN(3), mark)
			if at >= 0 {
				b = on(l[at], l[at].View+1+max(0, r.IntN(5)-3), mark)
			}
			l, parents = append(l, b), append(parents, at)
		}
		f := grown(t, l...)
		for i, b := range l {
			certView, first := 0, -1
			if p := parents[i]; p >= 0 {
				certView = l[p].View
				if pp := parents[p]; pp >= 0 && l[pp].View+2 == b.View {
					first = pp
				}
			}
			checkLearned(t, f, certOf(b), certView)
			if first >= 0 {
				checkCommit(t, f, certOf(b), l[first])
			} else {
				checkNoCommit(t, f, certOf(b))
			}
		}
	}
}
