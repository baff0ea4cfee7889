package tally_test

import (
	"reflect"
	"slices"
	"testing"

	"comitia/api"
	"comitia/cert"
	"comitia/tally"
)

// spoilTags writes over tags, and over their spare room.
func spoilTags(l []string) {
	for i := range cap(l) {
		l[:cap(l)][i] = "spoilt"
	}
}

// spoil writes over a certificate's lists, spare room and all.
func spoil(c api.Cert) {
	for _, s := range c.Sigs {
		spoilTags(s.Tags)
	}
	for i := range cap(c.Sigs) {
		c.Sigs[:cap(c.Sigs)][i] = api.Sig{From: 3, Tags: []string{"spoilt"}}
	}
}

// roomy is a signature whose tags have spare room, in which something stands.
func roomy(s api.Sig) api.Sig {
	tags := append(slices.Clone(s.Tags), "spare", "spare too")
	return api.Sig{From: s.From, Tags: tags[:len(s.Tags)]}
}

// The signatures that were handed in may be written over, those of a quorum
// and the last one of it.
func TestAddKeepsNothing(t *testing.T) {
	eachReader(t, func(x reader) {
		want := votesOf(x.n, 5, a, span(x.n)...)
		var handed []api.Sig
		for from, s := range want {
			s = roomy(s)
			handed = append(handed, s)
			if from+1 != quorums[x.n] {
				x.taken(5, a, s)
			} else {
				c := x.some(5, a, s, want[:from+1]...)
				for _, old := range handed {
					spoilTags(old.Tags)
				}
				if !reflect.DeepEqual(c.Sigs, want[:from+1]) {
					t.Errorf("%v", c)
				}
			}
			spoilTags(s.Tags)
			x.check(group{5, a, from + 1})
		}
	})
}

// One list of tags, written over for each vote.
func TestOneListOfTags(t *testing.T) {
	x := newReader(t, 3, 7)
	want := votesOf(7, 8, b, 6, 4, 2, 0, 1)
	tags := make([]string, 7)
	for i, s := range want {
		copy(tags, s.Tags)
		handed := api.Sig{From: s.From, Tags: tags}
		if i < 4 {
			x.taken(8, b, handed)
		} else {
			x.some(8, b, handed, want...)
		}
	}
}

// What is handed in is left as it is, its spare room, too: what is taken, what
// isn't, and behind what else is done.
func TestWhatIsHandedInIsLeft(t *testing.T) {
	eachReader(t, func(x reader) {
		var handed, was []api.Sig
		for _, view := range []int{5, 6, 5} {
			for from := range x.n + 1 {
				s := roomy(voteOf(from, x.n, 5, a))
				handed = append(handed, s)
				was = append(was, api.Sig{From: s.From, Tags: slices.Clone(s.Tags[:cap(s.Tags)])})
				c, _ := x.Add(view, a, s)
				spoil(c)
				x.Add(view, b, s)
			}
		}
		x.Below(5)
		x.fill(6, 7)
		for i, s := range handed {
			if s.From != was[i].From || !slices.Equal(s.Tags[:cap(s.Tags)], was[i].Tags) {
				t.Errorf("%v, not %v", s.Tags[:cap(s.Tags)], was[i].Tags)
			}
		}
	})
}

// A certificate that was told may be written over, and may grow: the votes
// are as they were.
func TestCertificatesAreNew(t *testing.T) {
	eachReader(t, func(x reader) {
		q := quorums[x.n]
		l := votesOf(x.n, 5, a, span(x.n)...)
		handed := votesOf(x.n, 5, a, span(x.n)...)
		for _, s := range handed[:q-1] {
			x.taken(5, a, s)
		}
		c := x.some(5, a, handed[q-1], l[:q]...)
		c.Sigs[0].Tags = append(c.Sigs[0].Tags, "mine")
		c.Sigs = append(c.Sigs, api.Sig{From: 6, Tags: []string{"mine"}})
		spoil(c)
		x.check(group{5, a, q})
		if !reflect.DeepEqual(handed, l) {
			t.Errorf("%v", handed)
		}
		for from := range q {
			x.refused(5, a, l[from])
			x.refused(5, b, voteOf(from, x.n, 5, b))
		}
		for _, s := range l[q:] {
			x.taken(5, a, s)
		}
		x.check(group{5, a, x.n})
	})
}

// No two lists of a certificate share anything, nor do two certificates.
func TestListsAreApart(t *testing.T) {
	for i := range 5 {
		x := newReader(t, 0, 7)
		var certs []api.Cert
		var want []api.Cert
		for _, view := range []int{5, 6} {
			for _, from := range []int{6, 5, 4, 2, 0} {
				if c, ok := x.Add(view, a, voteOf(from, 7, view, a)); ok {
					certs = append(certs, c)
				}
			}
			want = append(want, api.Cert{View: view, Block: a, Sigs: votesOf(7, view, a, 0, 2, 4, 5, 6)})
		}
		spoilTags(certs[0].Sigs[i].Tags)
		_ = append(certs[0].Sigs[i].Tags, "mine")
		certs[0].Sigs[i] = want[0].Sigs[i]
		if !reflect.DeepEqual(certs, want) {
			t.Fatalf("%v", certs)
		}
		spoil(certs[0])
		if !reflect.DeepEqual(certs[1], want[1]) {
			t.Fatalf("%v", certs[1])
		}
	}
}

// A certificate that was told stays, whatever comes then.
func TestCertificatesStay(t *testing.T) {
	eachReader(t, func(x reader) {
		q := quorums[x.n]
		l := votesOf(x.n, 5, a, span(x.n)...)
		x.Add(4, b, voteOf(0, x.n, 4, b))
		for _, s := range l[:q-1] {
			x.taken(5, a, s)
		}
		c := x.some(5, a, l[q-1], l[:q]...)
		for _, s := range l {
			x.Add(5, a, s)
		}
		x.Below(4)
		x.fill(6, 7)
		x.Below(5)
		x.fill(8, 9)
		x.Below(9)
		x.fill(10, 11, 12, 13)
		if !reflect.DeepEqual(c, api.Cert{View: 5, Block: a, Sigs: l[:q]}) || !cert.Holds(seed, x.to, x.n, c) {
			t.Errorf("%v", c)
		}
	})
}

// A certificate's signatures may be handed to the tally that told it, and to
// another one.
func TestCertificatesHandedIn(t *testing.T) {
	x, y := newReader(t, 0, 4), newReader(t, 2, 4)
	l := votesOf(4, 5, a, 1, 2, 3)
	x.taken(5, a, l[0])
	x.taken(5, a, l[2])
	told := x.some(5, a, l[1], l...)
	for i, s := range told.Sigs {
		x.refused(5, a, s)
		if i < 2 {
			y.taken(5, a, s)
		} else {
			y.some(5, a, s, l...)
		}
	}
	spoil(told)
	x.refused(5, a, l[0])
	y.refused(5, a, l[0])
	x.check(group{5, a, 3})
	y.check(group{5, a, 3})
}

// Two tallies don't hang on one another: of one node or of two, of one seed or
// of two.
func TestTalliesAreApart(t *testing.T) {
	x, y, z := newReader(t, 1, 4), newReader(t, 1, 4), newReader(t, 3, 4)
	if x.Tally == y.Tally {
		t.Fatal("one tally")
	}
	l := votesOf(4, 5, a, 0, 1, 2, 3)
	x.taken(5, a, l[0])
	x.taken(5, a, l[1])
	y.check()
	y.taken(5, a, l[2])
	y.taken(5, b, voteOf(0, 4, 5, b))
	z.check()
	x.some(5, a, l[2], l[:3]...)
	y.taken(5, a, l[1])
	z.taken(5, a, l[3])
	x.Below(5)
	y.check(group{5, a, 2}, group{5, b, 1})
	x.refused(5, a, l[3])
	y.some(5, a, l[3], l[1:]...)
	z.taken(5, a, l[1])
	x.fill(6, 7, 8, 9)
	x.refused(10, a, voteOf(1, 4, 10, a))
	y.taken(10, a, voteOf(1, 4, 10, a))
	x.check(group{6, a, 4}, group{7, a, 4}, group{8, a, 4}, group{9, a, 4})
	y.check(group{5, a, 3}, group{5, b, 1}, group{10, a, 1})
	z.check(group{5, a, 2})
	newReader(t, 1, 4).check()
	other := tally.New("other", 1, 4)
	other.Add(5, a, signed("other", 2, 4, textOf(5, a)))
	y.refused(11, a, signed("other", 2, 4, textOf(11, a)))
	if other.Len() != 1 || other.Count(5, a) != 1 {
		t.Error(other.Len())
	}
}
