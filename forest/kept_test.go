package forest_test

import (
	"fmt"
	"testing"

	"comitia/api"
	"comitia/block"
	"comitia/forest"
)

// Refused calls change nothing.
func TestRefused(t *testing.T) {
	a, b := root(5, 0), root(1, 1)
	onA, apart := on(a, 6, 0), on(root(9, 9), 10, 0)
	wrong := on(a, 4, 0)
	var more []api.Block
	for mark := range 8 {
		more = append(more, on(root(9, 9), 11, mark))
	}
	f := grown(t, apart, a, b, onA)
	put(t, f, api.OK, more[:7]...)
	all := append(digests(a, b, onA, apart, wrong), digests(more...)...)
	all = append(all, block.First(), "x")
	was := picture(f, all)
	check := func(what string, got, want api.Errno) {
		t.Helper()
		if got != want {
			t.Errorf("%s: %d, not %d", what, got, want)
		}
		if now := picture(f, all); now != was {
			t.Errorf("%s changed\n%sto\n%s", what, was, now)
		}
	}
	check("a block that stands", f.Put(onA), api.ErrKnown)
	check("an orphan", f.Put(apart), api.ErrKnown)
	check("a wrong one", f.Put(wrong), api.ErrOrder)
	check("an orphan too many", f.Put(more[7]), api.ErrBusy)
	check("no digest", f.Prune("x"), api.ErrNone)
	check("an orphan's digest", f.Prune(block.Digest(apart)), api.ErrNone)
	check("a digest that isn't there", f.Prune(block.Digest(wrong)), api.ErrNone)
	f.Prune(block.Digest(a))
	put(t, f, api.OK, apart)
	was = picture(f, all)
	check("the root's block", f.Put(a), api.ErrKnown)
	check("the root that was", f.Prune(block.First()), api.ErrNone)
	check("what went", f.Prune(block.Digest(b)), api.ErrNone)
}

// A full forest refuses one more, and nothing is changed by that.
func TestRefusedWhenFull(t *testing.T) {
	l := star(api.MaxBlocks)
	apart := on(root(9, 9), 10, 0)
	f := grown(t, append(l, apart)...)
	put(t, f, api.ErrBusy, root(9, 9), on(l[3], 2, 0))
	put(t, f, api.ErrOrder, on(l[3], 1, 0))
	checkStand(t, f, l...)
	checkWait(t, f, apart)
	checkMissing(t, f, block.Digest(root(9, 9)))
	checkNowhere(t, f, block.Digest(root(9, 9)), digests(l[0], l[399])...)
}

// roomy is a block with lists that have spare room.
func roomy(parent api.Block, view int) api.Block {
	b := on(parent, view, 0)
	tags := append(make([]string, 0, 9), "t", "u")
	b.Justify.Sigs = append(make([]api.Sig, 0, 9), api.Sig{From: 1, Tags: tags}, api.Sig{From: 2})
	b.Batch = append(make([]api.Request, 0, 9), api.Request{Client: 1, Seq: 1, Body: "a"}, api.Request{Client: 2, Seq: 2, Body: "b"})
	return b
}

// whole is a block's lists as text, spare room and all.
func whole(b api.Block) string {
	sigs := b.Justify.Sigs[:cap(b.Justify.Sigs)]
	s := fmt.Sprint(b, sigs, b.Batch[:cap(b.Batch)])
	for _, x := range sigs {
		s += fmt.Sprint(x.Tags[:cap(x.Tags)])
	}
	return s
}

// spoil writes over a block's lists, spare room and all.
func spoil(b api.Block) {
	sigs := b.Justify.Sigs[:cap(b.Justify.Sigs)]
	for i, s := range sigs {
		spoilTexts(s.Tags)
		sigs[i] = api.Sig{From: 99}
	}
	batch := b.Batch[:cap(b.Batch)]
	for i := range batch {
		batch[i] = api.Request{Client: 99}
	}
}

func spoilTexts(l []string) {
	l = l[:cap(l)]
	for i := range l {
		l[i] = "spoilt"
	}
}

// A block that is written over behind its coming stands as it came, be it
// that it waited first.
func TestWhatIsHandedInIsNotKept(t *testing.T) {
	a := root(1, 0)
	for _, ahead := range []bool{false, true} {
		f := forest.New()
		b, was := roomy(a, 2), roomy(a, 2)
		if ahead {
			put(t, f, api.OK, b)
			spoil(b)
			put(t, f, api.OK, a)
		} else {
			put(t, f, api.OK, a, b)
			spoil(b)
		}
		checkStand(t, f, a, was)
		put(t, f, api.ErrKnown, was)
	}
}

func TestWhatIsHandedInIsLeft(t *testing.T) {
	a := root(1, 0)
	b := roomy(a, 2)
	was := whole(b)
	for _, order := range [][]api.Block{{a, b, b}, {b, b, a}, {roomy(a, 2), b, a}, {a, on(b, 3, 0), b}} {
		f := forest.New()
		for _, x := range order {
			f.Put(x)
		}
		got, ok := f.Get(block.Digest(b))
		if !ok {
			t.Error("not there")
		}
		spoil(got)
		f.Prune(block.Digest(a))
		f.Prune(block.Digest(b))
		if now := whole(b); now != was {
			t.Errorf("%q, not %q", now, was)
		}
	}
}

// What is answered may be written over.
func TestAnswersAreNew(t *testing.T) {
	a := root(1, 0)
	b := roomy(a, 2)
	c, apart := roomy(b, 3), roomy(root(9, 9), 10)
	f := grown(t, a, b, c, apart, on(apart, 11, 0), on(root(8, 8), 9, 0))
	all := append(digests(a, b, c, apart), block.First())
	was := picture(f, all)
	for range 2 {
		for _, h := range all {
			one, _ := f.Get(h)
			other, _ := f.Get(h)
			as := whole(other)
			spoil(one)
			if whole(other) != as {
				t.Error("two answers share memory")
			}
			for _, to := range all {
				way, _ := f.Path(h, to)
				spoilTexts(way)
			}
		}
		spoilTexts(f.Orphans())
		spoilTexts(f.Missing())
		if now := picture(f, all); now != was {
			t.Errorf("\n%snot\n%s", now, was)
		}
	}
	f.Prune(block.Digest(a))
	checkStand(t, f, b, c)
}

// Two forests don't hang on one another.
func TestForestsAreApart(t *testing.T) {
	l := chain(4)
	f, g := forest.New(), forest.New()
	put(t, f, api.OK, l[3], l[0], l[1])
	checkStand(t, g)
	checkWait(t, g)
	put(t, g, api.OK, l...)
	checkStand(t, f, l[:2]...)
	checkWait(t, f, l[3])
	f.Prune(block.Digest(l[1]))
	checkRoot(t, g, block.First(), 0)
	checkStand(t, g, l...)
	got, _ := f.Get(block.Digest(l[1]))
	spoil(got)
	got, _ = g.Get(block.Digest(l[1]))
	spoil(got)
	checkStand(t, g, l...)
	checkRoot(t, forest.New(), block.First(), 0)
}
