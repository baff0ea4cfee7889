package forest_test

import (
	"fmt"
	"math/rand/v2"
	"slices"
	"strings"
	"testing"

	"comitia/api"
	"comitia/block"
	"comitia/forest"
	"comitia/wire"
)

// looks is what a forest tells of itself.
type looks interface {
	Get(h api.Hash) (api.Block, bool)
	Has(h api.Hash) bool
	Height(h api.Hash) int
	Extends(h, on api.Hash) bool
	Path(from, to api.Hash) ([]api.Hash, bool)
	Len() int
	Orphans() []api.Hash
	Missing() []api.Hash
}

// picture is all that a forest tells of these digests.
func picture(f looks, l []api.Hash) string {
	var s strings.Builder
	fmt.Fprintln(&s, f.Len(), short(f.Orphans()), short(f.Missing()))
	for _, h := range l {
		b, ok := f.Get(h)
		fmt.Fprintf(&s, "%.4x %v %d %v %x", h, f.Has(h), f.Height(h), ok, wire.Block(b))
		for _, x := range l {
			way, ok := f.Path(x, h)
			fmt.Fprint(&s, f.Extends(h, x), ok, short(way))
		}
		fmt.Fprintln(&s)
	}
	return s.String()
}

// A plain forest does what the chapter says, word by word, by lists that are
// looked through.
type plain struct {
	root   api.Hash
	height int
	stand  []known
	wait   []known
}

type known struct {
	h api.Hash
	b api.Block
}

func find(l []known, h api.Hash) int {
	return slices.IndexFunc(l, func(k known) bool { return k.h == h })
}

func (p *plain) Put(b api.Block) api.Errno {
	h := block.Digest(b)
	if find(p.stand, h) >= 0 || find(p.wait, h) >= 0 || h == p.root {
		return api.ErrKnown
	}
	parent := find(p.stand, b.Justify.Block)
	if parent >= 0 {
		on := p.stand[parent].b
		if b.View <= on.View || b.View <= b.Justify.View || b.Justify.View != on.View {
			return api.ErrOrder
		}
	}
	if parent < 0 && b.Justify.Block != p.root {
		if len(p.wait) == 8 {
			return api.ErrBusy
		}
		p.wait = append(p.wait, known{h, b})
		return api.OK
	}
	if len(p.stand) == 400 {
		return api.ErrBusy
	}
	p.stand = append(p.stand, known{h, b})
	for i := 0; i < len(p.wait); i++ {
		if b := p.wait[i].b; p.Has(b.Justify.Block) {
			p.wait = slices.Concat(p.wait[:i], p.wait[i+1:])
			p.Put(b)
			i = -1
		}
	}
	return api.OK
}

func (p *plain) Prune(h api.Hash) api.Errno {
	if !p.Has(h) {
		return api.ErrNone
	}
	var kept []known
	for _, k := range p.stand {
		if k.h != h && slices.Contains(p.down(k.h), h) {
			kept = append(kept, k)
		}
	}
	p.height = p.Height(h)
	p.root, p.stand, p.wait = h, kept, nil
	return api.OK
}

// down is a digest, and what it stands on.
func (p *plain) down(h api.Hash) []api.Hash {
	if h == p.root {
		return []api.Hash{h}
	}
	if i := find(p.stand, h); i >= 0 {
		return append([]api.Hash{h}, p.down(p.stand[i].b.Justify.Block)...)
	}
	return nil
}

func (p *plain) Get(h api.Hash) (api.Block, bool) {
	if i := find(p.stand, h); i >= 0 {
		return p.stand[i].b, true
	}
	return api.Block{}, false
}

func (p *plain) Has(h api.Hash) bool { return h == p.root || find(p.stand, h) >= 0 }

func (p *plain) Height(h api.Hash) int {
	if !p.Has(h) {
		return -1
	}
	return p.height + len(p.down(h)) - 1
}

func (p *plain) Extends(h, on api.Hash) bool { return slices.Contains(p.down(h), on) }

func (p *plain) Path(from, to api.Hash) ([]api.Hash, bool) {
	l := p.down(to)
	i := slices.Index(l, from)
	if i < 0 {
		return nil, false
	}
	l = l[:i]
	slices.Reverse(l)
	return l, true
}

func (p *plain) Len() int { return len(p.stand) }

func (p *plain) Orphans() []api.Hash {
	var l []api.Hash
	for _, k := range p.wait {
		l = append(l, k.h)
	}
	return l
}

func (p *plain) Missing() []api.Hash {
	var l []api.Hash
	for _, k := range p.wait {
		h := k.b.Justify.Block
		if find(p.wait, h) < 0 && !slices.Contains(l, h) {
			l = append(l, h)
		}
	}
	return l
}

// someBlocks are blocks on one another, a few with views that don't go on.
func someBlocks(r *rand.Rand, many int) []api.Block {
	l := []api.Block{root(1, 0)}
	for mark := 1; mark < many; mark++ {
		parent := l[r.IntN(len(l))]
		b := on(parent, parent.View+1+r.IntN(3), mark)
		switch r.IntN(12) {
		case 0:
			b = root(r.IntN(3), mark)
		case 1:
			b.View = parent.View
		case 2:
			b.Justify.View += 1 - 2*r.IntN(2)
		}
		l = append(l, b)
	}
	return l
}

// Forests that are put to and pruned at random are as the plain ones.
func TestAsThePlainOne(t *testing.T) {
	r := rand.New(rand.NewPCG(7, 7))
	for range 100 {
		l := someBlocks(r, 14)
		d := append(digests(l...), block.First(), "x")
		f, p := forest.New(), &plain{root: block.First()}
		for range 30 {
			var got, want api.Errno
			if r.IntN(12) == 0 {
				h := d[r.IntN(len(d))]
				got, want = f.Prune(h), p.Prune(h)
			} else {
				b := l[r.IntN(len(l))]
				got, want = f.Put(b), p.Put(b)
			}
			if got != want {
				t.Fatalf("%d, not %d", got, want)
			}
			if got, want := picture(f, d), picture(p, d); got != want {
				t.Fatalf("\n%sis not\n%s", got, want)
			}
		}
	}
}

// orders are all orders of the numbers from 0 below many.
func orders(many int) [][]int {
	if many == 0 {
		return [][]int{nil}
	}
	var l [][]int
	for _, o := range orders(many - 1) {
		for i := range many {
			l = append(l, slices.Insert(slices.Clone(o), i, many-1))
		}
	}
	return l
}

// shapes are all ways in which so many blocks stand on the root, or each on
// one ahead of it: the parents, -1 for the root.
func shapes(many int) [][]int {
	if many == 0 {
		return [][]int{nil}
	}
	var l [][]int
	for _, s := range shapes(many - 1) {
		for parent := -1; parent < many-1; parent++ {
			l = append(l, append(slices.Clone(s), parent))
		}
	}
	return l
}

// shaped are blocks of a shape, each of another view.
func shaped(shape []int) []api.Block {
	var l []api.Block
	for i, parent := range shape {
		if parent < 0 {
			l = append(l, root(i+1, 0))
		} else {
			l = append(l, on(l[parent], i+1, 0))
		}
	}
	return l
}

// checkAllOrders puts blocks in all orders: just these of them stand then,
// and just these wait, in whatever order.
func checkAllOrders(t *testing.T, l, stand, wait []api.Block) {
	t.Helper()
	all, waiting := digests(l...), digests(wait...)
	slices.Sort(waiting)
	was := ""
	for _, order := range orders(len(l)) {
		f := forest.New()
		for _, i := range order {
			f.Put(l[i])
		}
		rest := f.Orphans()
		slices.Sort(rest)
		if f.Len() != len(stand) || !slices.Equal(rest, waiting) {
			t.Fatalf("in the order %v %d stand, not %d, and %s wait, not %s", order, f.Len(), len(stand), short(rest), short(waiting))
		}
		f.Prune(block.First())
		now := picture(f, all)
		if was == "" {
			checkStand(t, f, stand...)
			was = now
		}
		if now != was {
			t.Fatalf("in the order %v\n%snot\n%s", order, now, was)
		}
	}
}

// Of all shapes of at most five blocks, in all orders, all stand.
func TestAllOrdersOfAllShapes(t *testing.T) {
	for many := range 6 {
		for _, shape := range shapes(many) {
			l := shaped(shape)
			checkAllOrders(t, l, l, nil)
		}
	}
}

func TestAllOrders(t *testing.T) {
	for _, shape := range [][]int{
		{-1, 0, 1, 2, 3, 4, 5}, {-1, 0, 0, 1, 1, 2, 2}, {-1, -1, 0, 1, 2, 3, 0},
	} {
		l := shaped(shape)
		checkAllOrders(t, l, l, nil)
	}
}

// Wrong ones among them, and ones that want what never comes: what stands is
// the same in all orders, and so is what waits.
func TestAllOrdersOfWrongOnes(t *testing.T) {
	a := root(5, 0)
	b := on(a, 6, 0)
	late, other := on(a, 5, 1), under(block.Digest(b), 7, 8, 0)
	onLate, onB := on(late, 9, 0), on(b, 9, 0)
	apart := on(root(9, 9), 10, 0)
	checkAllOrders(t, []api.Block{a, b, late, other, onLate, onB}, []api.Block{a, b, onB}, []api.Block{onLate})
	checkAllOrders(t, []api.Block{a, b, late, onLate, apart, onB}, []api.Block{a, b, onB}, []api.Block{onLate, apart})
	checkAllOrders(t, []api.Block{b, onB, late, onLate}, nil, []api.Block{b, onB, late, onLate})
}

// Nine blocks are as many as surely have room in every order.
func TestSomeOrdersOfNine(t *testing.T) {
	r := rand.New(rand.NewPCG(9, 9))
	for _, shape := range [][]int{
		{-1, 0, 1, 2, 3, 4, 5, 6, 7}, {-1, 0, 0, 0, 0, 0, 0, 0, 0}, {-1, 0, 0, 1, 1, 2, 2, 3, 3}, {-1, -1, 0, 1, 2, 3, 4, 5, 6},
	} {
		l := shaped(shape)
		for range 200 {
			f := forest.New()
			for _, i := range r.Perm(len(l)) {
				put(t, f, api.OK, l[i])
			}
			checkStand(t, f, l...)
			checkWait(t, f)
		}
	}
}
