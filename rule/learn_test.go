package rule_test

import (
	"fmt"
	"math"
	"testing"

	"comitia/api"
	"comitia/block"
	"comitia/cert"
	"comitia/forest"
	"comitia/rule"
	"comitia/wire"
)

// on is a block on another one, with its view; the mark keeps siblings apart.
func on(parent api.Block, view, mark int) api.Block {
	return api.Block{View: view, Justify: certOf(parent), Batch: []api.Request{{Client: 1, Seq: mark + 1}}}
}

// root is a block on the first one.
func root(view, mark int) api.Block {
	return api.Block{View: view, Justify: cert.First(), Batch: []api.Request{{Client: 1, Seq: mark + 1}}}
}

// certOf is a certificate for a block, of its view.
func certOf(b api.Block) api.Cert {
	return api.Cert{View: b.View, Block: block.Digest(b)}
}

// chain are blocks of those views, each on the one ahead.
func chain(views ...int) []api.Block {
	l := []api.Block{root(views[0], 0)}
	for _, view := range views[1:] {
		l = append(l, on(l[len(l)-1], view, 0))
	}
	return l
}

// grown is a forest in which these were put.
func grown(t *testing.T, l ...api.Block) *forest.Forest {
	t.Helper()
	f := forest.New()
	for i, b := range l {
		if e := f.Put(b); e != api.OK {
			t.Fatalf("block %d of %d, of the view %d: %d", i, len(l), b.View, e)
		}
	}
	return f
}

func prune(t *testing.T, f *forest.Forest, b api.Block) {
	t.Helper()
	if e := f.Prune(block.Digest(b)); e != api.OK {
		t.Fatal(e)
	}
}

// picture is all that a forest tells of these blocks, and of the first one.
func picture(f *forest.Forest, l ...api.Block) string {
	s := fmt.Sprintf("%d %x %x\n", f.Len(), f.Orphans(), f.Missing())
	d := []api.Hash{block.First()}
	for _, b := range l {
		d = append(d, block.Digest(b))
	}
	for _, h := range d {
		b, ok := f.Get(h)
		s += fmt.Sprintf("%.4x %v %d %v %x", h, f.Has(h), f.Height(h), ok, wire.Block(b))
		for _, x := range d {
			way, ok := f.Path(x, h)
			s += fmt.Sprintf(" %v %x", ok, way)
		}
		s += "\n"
	}
	return s
}

// others are certificates that differ from c in the view, or in the digest.
func others(c api.Cert) []api.Cert {
	var l []api.Cert
	for _, view := range []int{c.View - 1, c.View + 1, -1, 0, api.MaxView, api.MaxView + 1, math.MaxInt, math.MinInt, -c.View, 1<<32 + c.View} {
		if view != c.View {
			l = append(l, api.Cert{View: view, Block: c.Block, Sigs: c.Sigs})
		}
	}
	for _, h := range []api.Hash{"", "x", c.Block[:31], c.Block + "x", string(make([]byte, 32))} {
		l = append(l, api.Cert{View: c.View, Block: h, Sigs: c.Sigs})
	}
	return l
}

// checkLearned asks what Locked is behind the learning, from 0 on, and that it
// doesn't fall.
func checkLearned(t *testing.T, f *forest.Forest, c api.Cert, want int) {
	t.Helper()
	for _, voted := range []int{0, 1, 7, api.MaxView, api.MaxView + 1, -1, math.MaxInt, math.MinInt} {
		for _, locked := range []int{0, want - 1, want, want + 1, api.MaxView, api.MaxView + 1, math.MaxInt} {
			s := rule.State{Voted: voted, Locked: locked}
			after := rule.State{Voted: voted, Locked: max(locked, want)}
			if got := rule.Learn(f, s, c); got != after {
				t.Errorf("%v behind %v, not %v", got, s, after)
			}
		}
	}
}

// checkNotLearned asks that a certificate changes no state.
func checkNotLearned(t *testing.T, f *forest.Forest, c api.Cert) {
	t.Helper()
	for _, s := range []rule.State{{}, {Voted: 3, Locked: 2}, {Locked: 1}, {Voted: 9}, {Voted: -1, Locked: -1}, {Voted: math.MinInt, Locked: math.MinInt}, {Voted: math.MaxInt, Locked: math.MaxInt}} {
		if got := rule.Learn(f, s, c); got != s {
			t.Errorf("of the view %d: %v behind %v", c.View, got, s)
		}
	}
}

// Along a chain Locked is the view ahead of that of what is learned.
func TestLearnAlongAChain(t *testing.T) {
	l := chain(1, 2, 3, 4, 5, 6)
	f := grown(t, l...)
	s := rule.State{Voted: 3}
	for i, b := range l {
		s = rule.Learn(f, s, certOf(b))
		if s != (rule.State{Voted: 3, Locked: i}) {
			t.Error(i, s)
		}
		checkLearned(t, f, certOf(b), i)
	}
	for _, b := range l {
		if got := rule.Learn(f, s, certOf(b)); got != s {
			t.Error(b.View, got)
		}
	}
}

// Where views are left out it is the certificate's view still.
func TestLearnWithViewsLeftOut(t *testing.T) {
	l := chain(3, 7, 8, 20, api.MaxView)
	f := grown(t, l...)
	for i, want := range []int{0, 3, 7, 8, 20} {
		checkLearned(t, f, certOf(l[i]), want)
		for _, c := range others(certOf(l[i])) {
			checkNotLearned(t, f, c)
		}
	}
}

// Branches: each block's own certificate counts, not the forest's greatest.
func TestLearnOnBranches(t *testing.T) {
	a, b := root(1, 0), root(2, 1)
	a1, a2 := on(a, 5, 0), on(a, 5, 1)
	b1 := on(b, 5, 0)
	a11 := on(a1, 9, 0)
	f := grown(t, a, b, a1, a2, b1, a11)
	for _, x := range []struct {
		b    api.Block
		want int
	}{{a, 0}, {b, 0}, {a1, 1}, {a2, 1}, {b1, 2}, {a11, 5}} {
		checkLearned(t, f, certOf(x.b), x.want)
		for _, c := range others(certOf(x.b)) {
			checkNotLearned(t, f, c)
		}
	}
}

// Just below Locked, just at it, just above.
func TestLearnAboutLocked(t *testing.T) {
	l := chain(4, 5)
	f := grown(t, l...)
	for locked, want := range map[int]int{-1: 4, 0: 4, 3: 4, 4: 4, 5: 5, 6: 6} {
		if got := rule.Learn(f, rule.State{Voted: 1, Locked: locked}, certOf(l[1])); got != (rule.State{Voted: 1, Locked: want}) {
			t.Errorf("from %d: %v, not %d", locked, got, want)
		}
	}
}

// On the root a block's views are what they are: it is the certificate's view
// that counts, not its parent's.
func TestLearnOfWhatIsOnTheRoot(t *testing.T) {
	for _, view := range []int{0, 1, 6, api.MaxView, api.MaxView + 1, math.MaxInt, -1, -5} {
		b := root(7, 0)
		b.Justify.View = view
		f := grown(t, b)
		s := rule.State{Voted: 2, Locked: -3}
		if got := rule.Learn(f, s, certOf(b)); got != (rule.State{Voted: 2, Locked: max(view, -3)}) {
			t.Errorf("on %d: %v", view, got)
		}
	}
}

// The root's own certificate tells nothing, nor does one for what isn't there.
func TestLearnOfWhatDoesNotStand(t *testing.T) {
	l := chain(1, 2, 3)
	gone := on(root(8, 8), 9, 0)
	f := grown(t, l[0], l[1], on(gone, 10, 0), gone)
	for _, f := range []*forest.Forest{f, forest.New(), {}} {
		for _, c := range []api.Cert{
			{}, cert.First(), {View: 1, Block: block.First()}, certOf(l[2]),
			certOf(gone), certOf(on(gone, 10, 0)), certOf(root(8, 8)), {View: 10, Block: block.Digest(gone)},
		} {
			checkNotLearned(t, f, c)
		}
	}
}

func TestLearnOfAnOrphanThatStandsThen(t *testing.T) {
	l := chain(3, 5, 6)
	f := grown(t, l[2], l[1])
	checkNotLearned(t, f, certOf(l[2]))
	checkNotLearned(t, f, certOf(l[1]))
	if e := f.Put(l[0]); e != api.OK {
		t.Fatal(e)
	}
	checkLearned(t, f, certOf(l[0]), 0)
	checkLearned(t, f, certOf(l[1]), 3)
	checkLearned(t, f, certOf(l[2]), 5)
}

// Behind a pruning the root, and what went, are no blocks that stand; what is
// on the root has its certificate's view still.
func TestLearnBehindAPruning(t *testing.T) {
	l := chain(2, 3, 5, 9)
	side := on(l[0], 4, 1)
	f := grown(t, append(l, side)...)
	prune(t, f, l[1])
	checkNotLearned(t, f, cert.First())
	checkNotLearned(t, f, certOf(l[0]))
	checkNotLearned(t, f, certOf(l[1]))
	checkNotLearned(t, f, certOf(side))
	checkLearned(t, f, certOf(l[2]), 3)
	checkLearned(t, f, certOf(l[3]), 5)
	prune(t, f, l[3])
	for _, b := range append(l, side) {
		checkNotLearned(t, f, certOf(b))
	}
}

// Whose signatures a certificate has is all one, here as in the forest.
func TestLearnWithWhateverSignatures(t *testing.T) {
	l := chain(2, 3)
	f := grown(t, l...)
	for _, sigs := range [][]api.Sig{nil, {}, {{From: 1}}, {{From: 9, Tags: []string{"t"}}, {From: -1}}, make([]api.Sig, 20)} {
		c := certOf(l[1])
		c.Sigs = sigs
		checkLearned(t, f, c, 2)
	}
}

func TestLearnLeavesWhatIsHandedIn(t *testing.T) {
	a := root(1, 0)
	b := roomy(2, certOf(a))
	c := roomy(3, certOf(b))
	apart := on(root(8, 8), 9, 0)
	f := grown(t, a, b, c, apart)
	was, wasBlock := picture(f, a, b, c, apart), whole(b)
	for _, x := range []api.Block{a, b, c, apart, root(8, 8)} {
		for _, x := range append(others(certOf(x)), certOf(x), cert.First()) {
			x.Sigs = roomy(0, x).Justify.Sigs
			asHandedIn := wholeCert(x)
			for _, s := range []rule.State{{}, {Voted: 3, Locked: 2}} {
				kept := s
				rule.Learn(f, s, x)
				rule.Commit(f, x)
				if wholeCert(x) != asHandedIn || s != kept {
					t.Error("what was handed in is another")
				}
			}
		}
	}
	if now := picture(f, a, b, c, apart); now != was {
		t.Errorf("\n%snot\n%s", now, was)
	}
	if whole(b) != wasBlock {
		t.Error("a block that was put is another")
	}
}

// Two forests, and two states, don't hang on one another.
func TestLearnOfEachForest(t *testing.T) {
	l := chain(4, 5, 6)
	f, g := grown(t, l...), grown(t, l[0])
	checkLearned(t, f, certOf(l[2]), 5)
	checkNotLearned(t, g, certOf(l[2]))
	checkLearned(t, f, certOf(l[1]), 4)
	checkNotLearned(t, g, certOf(l[1]))
	checkLearned(t, g, certOf(l[0]), 0)
}
