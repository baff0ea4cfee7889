package tally_test

import (
	"math"
	"slices"
	"strings"
	"testing"

	"comitia/api"
	"comitia/blake"
	"comitia/tally"
)

// odd are numbers of nodes that there can't be, and that no node has.
var odd = []int{math.MinInt, math.MinInt32, -7, -2, -1, 8, 9, 20, 21, 256, math.MaxInt32, 1 << 31, 1 << 32, 1<<32 + 1, 1<<32 + 4, math.MaxInt}

// The views that there are, and those that there aren't.
func TestViews(t *testing.T) {
	eachReader(t, func(x reader) {
		for _, view := range oddViews {
			for from := range x.n {
				x.refused(view, a, voteOf(from, x.n, view, a))
				for _, other := range []int{1, 5, api.MaxView, int(int32(view)), int(uint32(view)), int(uint16(view)), -view} {
					x.refused(view, a, voteOf(from, x.n, other, a))
				}
			}
		}
		x.check()
		for _, view := range []int{1, api.MaxView, api.MaxView - 1, 2} {
			l := votesOf(x.n, view, a, span(x.n)[:quorums[x.n]]...)
			last := len(l) - 1
			for _, s := range l[:last] {
				x.taken(view, a, s)
			}
			x.some(view, a, l[last], l...)
		}
		q := quorums[x.n]
		x.check(group{1, a, q}, group{2, a, q}, group{api.MaxView - 1, a, q}, group{api.MaxView, a, q})
	})
}

// Digests of other sizes, all of them signed as they are.
func TestDigests(t *testing.T) {
	for _, block := range []api.Hash{"", "\x00", a[:16], a[:31], a[1:], a + "\x00", "\x00" + a, a + b, strings.Repeat("x", 256+32)} {
		eachReader(t, func(x reader) {
			for from := range x.n {
				x.refused(5, block, voteOf(from, x.n, 5, block))
			}
			x.check()
			x.Add(5, a, voteOf(0, x.n, 5, a))
			x.check(group{5, a, 1})
		})
	}
}

// Whatever 32 bytes are a digest.
func TestWhateverDigest(t *testing.T) {
	for _, block := range []api.Hash{strings.Repeat("\x00", 32), strings.Repeat("\xff", 32), blake.Sum("first"), a[:31] + "\x00"} {
		x := newReader(t, 2, 4)
		x.taken(1, block, voteOf(3, 4, 1, block))
		x.taken(1, block, voteOf(0, 4, 1, block))
		x.some(1, block, voteOf(2, 4, 1, block), votesOf(4, 1, block, 3, 0, 2)...)
	}
}

// Signatures of nodes that aren't there: one below, and none above.
func TestOtherNodes(t *testing.T) {
	eachReader(t, func(x reader) {
		for _, from := range append([]int{x.n, x.n + 1, x.n + 6}, odd...) {
			for tags := range 9 {
				x.refused(5, a, voteOf(from, tags, 5, a))
			}
			s := voteOf(0, x.n, 5, a)
			s.From = from
			x.refused(5, a, s)
		}
		x.check()
	})
}

// A signature that names another one of the nodes.
func TestAnotherFrom(t *testing.T) {
	eachReader(t, func(x reader) {
		for from := range x.n {
			for named := range x.n {
				s := voteOf(from, x.n, 5, a)
				s.From = named
				if named != from {
					x.refused(5, a, s)
				}
			}
		}
		x.check()
	})
}

// Other tags than one for each node, or one that isn't a tag, wherever it is.
func TestTags(t *testing.T) {
	eachReader(t, func(x reader) {
		for tags := range 9 {
			if tags != x.n {
				x.refused(5, a, voteOf(x.n-1, tags, 5, a))
			}
		}
		for i := range x.n {
			s := voteOf(0, x.n, 5, a)
			tag := s.Tags[i]
			for _, wrong := range []string{"", tag[:15], tag[1:], tag + "\x00", "\x00" + tag, tag + tag} {
				s.Tags[i] = wrong
				x.refused(5, a, s)
			}
			s.Tags[i] = tag
			s.Tags = append(s.Tags, tag)
			x.refused(5, a, s)
		}
		x.check()
	})
}

// Signatures of another text, view, block or seed.
func TestOtherSignatures(t *testing.T) {
	text := textOf(5, a)
	texts := []string{"", "V", text[1:], text[:36], text + "\x00", "N" + text[1:], "v" + text[1:], text + text, a,
		textOf(4, a), textOf(6, a), textOf(0, a), textOf(5+256, a), textOf(api.MaxView, a), textOf(5, b), textOf(6, b), textOf(5, a[:31]), textOf(5, "")}
	eachReader(t, func(x reader) {
		for from := range x.n {
			for _, other := range texts {
				x.refused(5, a, signed(seed, from, x.n, other))
			}
			for _, other := range []string{"", "s", "see", "seeds", "Seed", "seed\x00", strings.Repeat("seed", 20)} {
				x.refused(5, a, signed(other, from, x.n, text))
			}
		}
		x.check()
		for from := range x.n {
			x.Add(5, a, voteOf(from, x.n, 5, a))
		}
		x.check(group{5, a, x.n})
	})
}

// A tally reads the seed that it was made of.
func TestSeeds(t *testing.T) {
	for _, own := range []string{"", "s", "seeds", strings.Repeat("x", 300)} {
		for _, other := range []string{"", "s", "seeds", strings.Repeat("x", 300), seed} {
			x := tally.New(own, 2, 4)
			for i, from := range []int{1, 0, 3} {
				c, ok := x.Add(7, b, signed(other, from, 4, textOf(7, b)))
				if ok != (own == other && i == 2) || ok != (len(c.Sigs) == 3) {
					t.Errorf("%q, %q: %v, %v", own, other, c, ok)
				}
			}
			if (x.Len() == 3) != (own == other) || (x.Len() == 0) != (own != other) {
				t.Errorf("%q, %q: %d", own, other, x.Len())
			}
		}
	}
}

// Only the tag for the tally's node is asked whether it holds.
func TestWhoseTag(t *testing.T) {
	eachReader(t, func(x reader) {
		for from := range x.n {
			good := voteOf(from, x.n, 5, a)
			only := api.Sig{From: from, Tags: slices.Repeat([]string{"of sixteen bytes"}, x.n)}
			only.Tags[x.to] = good.Tags[x.to]
			other := api.Sig{From: from, Tags: slices.Clone(good.Tags)}
			for i := range api.TagSize {
				bent := []byte(good.Tags[x.to])
				bent[i] ^= 1 << (i % 8)
				other.Tags[x.to] = string(bent)
				x.refused(5, a, other)
			}
			for i, tag := range good.Tags {
				other.Tags[x.to] = tag
				if i != x.to {
					x.refused(5, a, other)
				}
			}
			x.Add(5, a, only)
			x.check(group{5, a, from + 1})
		}
	})
}

// What didn't hold, or was no vote for another reason, is in nobody's way.
func TestBehindWhatDoesntHold(t *testing.T) {
	eachReader(t, func(x reader) {
		var came []api.Sig
		for from := range quorums[x.n] {
			s := voteOf(from, x.n, 5, a)
			came = append(came, s)
			x.refused(5, a, voteOf(from, x.n, 5, b))
			x.refused(5, b, s)
			x.refused(6, a, s)
			x.refused(5, a, signed("other", from, x.n, textOf(5, a)))
			x.refused(5, a, voteOf(from, x.n+1, 5, a))
			x.refused(5, a[:31], voteOf(from, x.n, 5, a[:31]))
			x.refused(0, a, voteOf(from, x.n, 0, a))
			if len(came) == quorums[x.n] {
				x.some(5, a, s, came...)
			} else {
				x.taken(5, a, s)
			}
		}
		x.check(group{5, a, len(came)})
	})
}

// silent asks a tally that takes no votes.
func silent(t *testing.T, x reader, tags int) {
	t.Helper()
	for _, from := range []int{0, 1, x.to, -1} {
		for _, view := range []int{1, 5, api.MaxView, 0} {
			x.refused(view, a, voteOf(from, tags, view, a))
		}
	}
	x.refused(1, "", api.Sig{})
	x.Below(3)
	x.Below(-3)
	x.refused(5, a, voteOf(0, tags, 5, a))
	x.check()
}

// Tallies whose n, or whose node, can't be.
func TestTalliesThatCantBe(t *testing.T) {
	for _, n := range append([]int{0}, odd...) {
		for _, to := range []int{0, 1, -1, n - 1, n} {
			for tags := range 10 {
				silent(t, newReader(t, to, n), tags)
			}
		}
	}
	for n := 1; n <= api.MaxNodes; n++ {
		for _, to := range append([]int{n, n + 1}, odd...) {
			silent(t, newReader(t, to, n), n)
		}
	}
	if t.Failed() {
		t.FailNow()
	}
}

// One that New hasn't made takes nothing.
func TestNotMade(t *testing.T) {
	for tags := range 5 {
		silent(t, reader{t, 0, 0, &tally.Tally{}}, tags)
	}
}
