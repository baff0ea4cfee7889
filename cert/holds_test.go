package cert_test

import (
	"fmt"
	"slices"
	"strings"
	"testing"

	"comitia/api"
	"comitia/blake"
	"comitia/cert"
	"comitia/count"
	"comitia/mac"
	"comitia/wire"
)

// quorums are how many of 0 to 7 nodes are a quorum; of no nodes it is as of one.
var quorums = [8]int{1, 1, 2, 3, 3, 4, 5, 5}

// outside are numbers of nodes that there can't be, and that no node has.
var outside = []int{-1, -2, -7, least, 8, 9, 21, 256, 1<<31 - 1, 1 << 31, 1 << 32, 1<<32 + 1, greatest}

// members are the nodes that a number names by its bits.
func members(bits int) []int {
	var l []int
	for node := range 7 {
		if bits>>node&1 == 1 {
			l = append(l, node)
		}
	}
	return l
}

// without are all nodes of a list but one.
func without(l []int, node int) []int {
	return slices.DeleteFunc(slices.Clone(l), func(x int) bool { return x == node })
}

// span are the nodes from 0 below n.
func span(n int) []int {
	return members(1<<n - 1)
}

// rawVote has tags for as many ends as are told, as one would vote who isn't
// asked who it is.
func rawVote(from, tags, view int, h api.Hash) api.Sig {
	s := api.Sig{From: from}
	for to := range tags {
		s.Tags = append(s.Tags, mac.Tag(seed, from, to, textByHand(view, h)))
	}
	return s
}

func rawVotes(tags, view int, h api.Hash, froms ...int) []api.Sig {
	var l []api.Sig
	for _, from := range froms {
		l = append(l, rawVote(from, tags, view, h))
	}
	return l
}

// judged holds what a node makes of a certificate against what it must.
func judged(t *testing.T, what string, to, n int, c api.Cert, good []int, holds bool) {
	t.Helper()
	if got := cert.Good(seed, to, n, c); !slices.Equal(got, good) {
		t.Errorf("%s: for %d of %d nodes good are %v, not %v", what, to, n, got, good)
	}
	if got := cert.Holds(seed, to, n, c); got != holds {
		t.Errorf("%s: for %d of %d nodes it holds: %v", what, to, n, got)
	}
}

// judgedByAll is judged of each of n nodes, and of some that aren't.
func judgedByAll(t *testing.T, what string, n int, c api.Cert, good []int, holds bool) {
	t.Helper()
	for to := range n {
		judged(t, what, to, n, c, good, holds)
	}
	for _, to := range append([]int{n, n + 1, 6 + n, 20}, outside...) {
		judged(t, what, to, n, c, nil, false)
	}
}

// The chapter's example: the first certificate holds for all. None of them is
// asked who it is.
func TestFirstHoldsForAll(t *testing.T) {
	for n := -2; n <= 9; n++ {
		for to := -2; to <= 9; to++ {
			judged(t, "first", to, n, cert.First(), nil, true)
			judged(t, "first, made", to, n, cert.Make(0, blake.Sum("first"), nil), nil, true)
			judged(t, "first, empty", to, n, api.Cert{Block: blake.Sum("first"), Sigs: []api.Sig{}}, nil, true)
		}
	}
	for _, x := range outside {
		judged(t, "first", x, x, cert.First(), nil, true)
		judged(t, "first", x, 4, cert.First(), nil, true)
		judged(t, "first", 0, x, cert.First(), nil, true)
	}
	for _, s := range []string{"", "s", "another", strings.Repeat("x", 300)} {
		if !cert.Holds(s, 0, 4, cert.First()) {
			t.Errorf("of the seed %q", s)
		}
	}
}

// Of the view 0 none but just the first one holds, whoever signs it.
func TestViewZero(t *testing.T) {
	first := blake.Sum("first")
	for n := 1; n <= 7; n++ {
		for k := 1; k <= n; k++ {
			judgedByAll(t, "first, signed", n, cert.Make(0, first, votes(t, n, 0, first, span(k)...)), span(k), false)
			judgedByAll(t, "another, signed", n, cert.Make(0, block, votes(t, n, 0, block, span(k)...)), span(k), false)
		}
	}
	for _, h := range []string{"", "first", first[:31], first[1:], first + "\x00", "\x00" + first[:31], hexOf(first), strings.Repeat("\x00", 32), block} {
		judgedByAll(t, "another", 4, api.Cert{Block: h}, nil, false)
	}
	for bit := range 256 {
		b := []byte(first)
		b[bit/8] ^= 1 << (bit % 8)
		judged(t, "bent", 0, 4, api.Cert{Block: string(b)}, nil, false)
	}
	for _, s := range []api.Sig{{}, {From: 1}, {From: -1}, {From: 7}, named(0, ""), named(0, "0123456789abcdef")} {
		judgedByAll(t, "with a signature", 4, api.Cert{Block: first, Sigs: []api.Sig{s}}, nil, false)
	}
}

// The first block, too, can be voted for, in views from 1 on; the first
// certificate doesn't hold in other views.
func TestFirstInOtherViews(t *testing.T) {
	first := blake.Sum("first")
	for _, view := range []int{-1, least, 1, 2, 1000000, 1000001, 1 << 32, greatest} {
		judgedByAll(t, fmt.Sprint("first in ", view), 4, api.Cert{View: view, Block: first}, nil, false)
	}
	judgedByAll(t, "voted for", 4, cert.Make(1, first, votes(t, 4, 1, first, 0, 1, 3)), []int{0, 1, 3}, true)
}

// P5.1 and P5.2: for all numbers of nodes, and each part of them, the
// certificate of their votes holds for each node if they are a quorum, and for
// none if not; Good tells them.
func TestAllParts(t *testing.T) {
	for n := 1; n <= 7; n++ {
		all := votes(t, n, 5, block, span(n)...)
		for bits := range 1 << n {
			froms := members(bits)
			var l []api.Sig
			for _, from := range froms {
				l = append(l, all[from])
			}
			judgedByAll(t, fmt.Sprint("of ", froms), n, cert.Make(5, block, l), froms, len(froms) >= quorums[n])
		}
	}
}

// P5.2: of a quorum's votes, each vote twice, and the last one first, it holds;
// of one vote less, however often they come, it doesn't.
func TestQuorumAndOneLess(t *testing.T) {
	for n := 1; n <= 7; n++ {
		froms := span(n)[n-quorums[n]:]
		l := votes(t, n, 1, block, append(slices.Clone(froms), froms...)...)
		slices.Reverse(l)
		judgedByAll(t, "a quorum", n, cert.Make(1, block, l), froms, true)
		less := votes(t, n, 1, block, slices.Repeat(froms[1:], 7)...)
		slices.Reverse(less)
		judgedByAll(t, "one less", n, cert.Make(1, block, less), froms[1:], false)
	}
}

// P5.2: a certificate isn't one for another view, nor for another block.
func TestQuorumElsewhere(t *testing.T) {
	for n := 1; n <= 7; n++ {
		for bits := range 1 << n {
			froms := members(bits)
			if len(froms) < quorums[n] {
				continue
			}
			c := cert.Make(5, block, votes(t, n, 5, block, froms...))
			for _, view := range []int{1, 4, 6, 5 + 1<<8, 5 + 1<<16, 1000000} {
				c.View = view
				judgedByAll(t, fmt.Sprint("in ", view), n, c, nil, false)
			}
			c.View, c.Block = 5, blake.Sum("other")
			judgedByAll(t, "of another block", n, c, nil, false)
		}
	}
}

// Another seed has other keys.
func TestAnotherSeed(t *testing.T) {
	c := cert.Make(5, block, votes(t, 4, 5, block, 0, 1, 2, 3))
	for _, s := range []string{"", "s", "see", "seed\x00", "Seed", "seeds"} {
		for to := range 4 {
			if good := cert.Good(s, to, 4, c); len(good) != 0 || cert.Holds(s, to, 4, c) {
				t.Errorf("of the seed %q for %d: %v", s, to, good)
			}
		}
	}
}

// Votes of one view and block among those of another: only these count.
func TestMixedVotes(t *testing.T) {
	mixed := append(votes(t, 4, 5, block, 0, 2), vote(t, 3, 4, 6, block))
	judgedByAll(t, "a vote of another view", 4, cert.Make(5, block, mixed), []int{0, 2}, false)
	judgedByAll(t, "two votes of another view", 4, cert.Make(6, block, mixed), []int{3}, false)
	mixed[2] = vote(t, 3, 4, 5, blake.Sum("other"))
	judgedByAll(t, "a vote for another block", 4, cert.Make(5, block, mixed), []int{0, 2}, false)
	mixed = append(mixed, vote(t, 1, 4, 5, block))
	judgedByAll(t, "three and another one", 4, cert.Make(5, block, mixed), []int{0, 1, 2}, true)
}

// Signatures count but for a vote's text.
func TestOtherTexts(t *testing.T) {
	for _, text := range []string{
		"", "V", block, wire.Number(5) + block, "v" + wire.Number(5) + block, "V" + block, "VV" + wire.Number(5) + block,
		"V" + wire.Number(5) + wire.Text(block), "V" + wire.Number(5), "B" + wire.Number(5) + block, "V\x00\x00\x00\x05",
		"V5" + block, "V\x05\x00\x00\x00" + block, "V" + wire.Number(5) + block + "\x00", "V" + block + wire.Number(5),
	} {
		var l []api.Sig
		for from := range 4 {
			s, _ := mac.Sign(seed, from, 4, text)
			l = append(l, s)
		}
		judgedByAll(t, fmt.Sprintf("of %x", text), 4, cert.Make(5, block, l), nil, false)
	}
}

// The edges of how many nodes there are, and of who asks. Tags are there for
// more ends than there may be nodes.
func TestEdgesOfNodes(t *testing.T) {
	for n := 1; n <= 7; n++ {
		c := cert.Make(5, block, rawVotes(n, 5, block, span(n)...))
		judged(t, "all", -1, n, c, nil, false)
		judged(t, "all", 0, n, c, span(n), true)
		judged(t, "all", n-1, n, c, span(n), true)
		judged(t, "all", n, n, c, nil, false)
	}
	for _, n := range append([]int{0, 10, 20}, outside...) {
		for tags := range 11 {
			for _, froms := range [][]int{nil, {0}, span(5), span(7), {0, 1, 2, 3, 4, 5, 6, 7}} {
				c := api.Cert{View: 5, Block: block, Sigs: rawVotes(tags, 5, block, froms...)}
				for _, to := range []int{-1, 0, 1, n - 1, n} {
					judged(t, fmt.Sprint(froms, " with ", tags, " tags"), to, n, c, nil, false)
				}
			}
		}
	}
}

// Signatures of other numbers of nodes aren't of these.
func TestOfAnotherNumberOfNodes(t *testing.T) {
	for of := 1; of <= 7; of++ {
		for n := 1; n <= 7; n++ {
			c := cert.Make(5, block, votes(t, of, 5, block, span(of)...))
			if n == of {
				judgedByAll(t, "of as many", n, c, span(n), true)
			} else {
				judgedByAll(t, fmt.Sprint("of ", of), n, c, nil, false)
			}
		}
	}
}

// The edges of views: of all that aren't from 0 to the greatest the
// certificate isn't right, though its signatures be of its text.
func TestEdgesOfViews(t *testing.T) {
	for _, view := range []int{1, 2, 255, 256, 999999, 1000000} {
		judgedByAll(t, fmt.Sprint("in ", view), 4, cert.Make(view, block, rawVotes(4, view, block, 0, 1, 2)), []int{0, 1, 2}, true)
	}
	for _, view := range []int{-1, -5, least, 1000001, 1<<31 - 1, 1 << 31, 1 << 32, 1<<32 + 5, greatest} {
		judgedByAll(t, fmt.Sprint("in ", view), 4, cert.Make(view, block, rawVotes(4, view, block, 0, 1, 2, 3)), nil, false)
		judgedByAll(t, fmt.Sprint("of nobody in ", view), 4, cert.Make(view, block, nil), nil, false)
	}
}

// Signatures of a digest of another length hold, but the certificate isn't right.
func TestEdgesOfDigests(t *testing.T) {
	for _, h := range []string{"", "x", block[:28], block[:31], block + "x", block + wire.Number(0), block + block} {
		judgedByAll(t, fmt.Sprint("of ", len(h)), 4, cert.Make(5, h, rawVotes(4, 5, h, 0, 1, 2, 3)), nil, false)
	}
	for _, h := range []string{strings.Repeat("\x00", 32), strings.Repeat("\xff", 32)} {
		judgedByAll(t, "of 32", 4, cert.Make(5, h, rawVotes(4, 5, h, 0, 1, 2, 3)), span(4), true)
	}
}

// A certificate of four of seven nodes' signatures and more: one thing that
// isn't right about one of them, and none of them counts.
func TestNotRight(t *testing.T) {
	tag := func(of int, tag string) func([]api.Sig) {
		return func(l []api.Sig) { l[3].Tags[of] = tag }
	}
	right := mac.Tag(seed, 3, 0, textByHand(5, block))
	for what, change := range map[string]func(l []api.Sig){
		"from below 0":         func(l []api.Sig) { l[0].From = -1 },
		"from far below 0":     func(l []api.Sig) { l[0].From = least },
		"from 7":               func(l []api.Sig) { l[6] = rawVote(7, 7, 5, block) },
		"from 2^31":            func(l []api.Sig) { l[6].From = 1 << 31 },
		"from 2^32 + 6":        func(l []api.Sig) { l[6].From = 1<<32 + 6 },
		"from the greatest":    func(l []api.Sig) { l[6].From = greatest },
		"two changed about":    func(l []api.Sig) { l[0], l[1] = l[1], l[0] },
		"the last two":         func(l []api.Sig) { l[5], l[6] = l[6], l[5] },
		"the other way round":  func(l []api.Sig) { slices.Reverse(l) },
		"one twice":            func(l []api.Sig) { l[4] = l[3] },
		"the last one twice":   func(l []api.Sig) { l[5] = l[6] },
		"the first one thrice": func(l []api.Sig) { l[1], l[2] = l[0], l[0] },
		"8 tags":               func(l []api.Sig) { l[3] = rawVote(3, 8, 5, block) },
		"20 tags":              func(l []api.Sig) { l[6] = rawVote(6, 20, 5, block) },
		"no tag":               tag(0, ""),
		"15 bytes":             tag(0, right[:15]),
		"17 bytes":             tag(0, right+"\x00"),
		"32 bytes":             tag(6, right+right),
		"48 bytes":             tag(6, strings.Repeat("x", 48)),
	} {
		l := votes(t, 7, 5, block, span(7)...)
		change(l)
		judgedByAll(t, what, 7, api.Cert{View: 5, Block: block, Sigs: l}, nil, false)
	}
	eight := append(votes(t, 7, 5, block, span(7)...), rawVote(7, 7, 5, block))
	judgedByAll(t, "eight signatures", 7, api.Cert{View: 5, Block: block, Sigs: eight}, nil, false)
	judgedByAll(t, "eight, made", 7, cert.Make(5, block, eight), nil, false)
}

// What is right, though one of its signatures doesn't hold, counts without that one.
func TestRightButForOne(t *testing.T) {
	for what, change := range map[string]func(l []api.Sig){
		"6 tags":             func(l []api.Sig) { l[3] = rawVote(3, 6, 5, block) },
		"one tag":            func(l []api.Sig) { l[3] = rawVote(3, 1, 5, block) },
		"no tags":            func(l []api.Sig) { l[3].Tags = nil },
		"empty tags":         func(l []api.Sig) { l[3].Tags = []string{} },
		"tags of noughts":    func(l []api.Sig) { l[3].Tags = slices.Repeat([]string{strings.Repeat("\x00", 16)}, 7) },
		"another one's tags": func(l []api.Sig) { l[3].Tags = l[2].Tags },
		"of another view":    func(l []api.Sig) { l[3] = rawVote(3, 7, 6, block) },
	} {
		l := votes(t, 7, 5, block, span(7)...)
		change(l)
		judgedByAll(t, what, 7, api.Cert{View: 5, Block: block, Sigs: l}, without(span(7), 3), true)
		judgedByAll(t, what+", of five", 7, api.Cert{View: 5, Block: block, Sigs: l[:5]}, []int{0, 1, 2, 4}, false)
	}
	for n := 1; n < 7; n++ {
		more := cert.Make(5, block, rawVotes(n, 5, block, span(7)...))
		judgedByAll(t, "nodes that aren't", n, more, span(n), true)
		less := cert.Make(5, block, rawVotes(n, 5, block, append(span(7)[n:], span(quorums[n]-1)...)...))
		judgedByAll(t, "nodes that aren't, one less", n, less, span(quorums[n]-1), false)
	}
}

// What isn't right may have the bytes of what is.
func TestBytesOfAnother(t *testing.T) {
	all := votes(t, 4, 0, block, 0, 1, 2, 3)
	for _, view := range []int{-1, 1 << 31, 1 << 32} {
		c := api.Cert{View: view, Block: block, Sigs: all}
		if _, e := wire.ReadCert(wire.Cert(c)); e != api.OK {
			t.Fatal("not the bytes of the view 0")
		}
		judgedByAll(t, fmt.Sprint("in ", view, " as in 0"), 4, c, nil, false)
		c.Block, c.Sigs = blake.Sum("first"), nil
		judgedByAll(t, fmt.Sprint("first in ", view), 4, c, nil, false)
	}
	for _, from := range []int{-1, 1 << 31, 1 << 32, least} {
		c := api.Cert{View: 5, Block: block, Sigs: votes(t, 4, 5, block, 0, 1, 2, 3)}
		c.Sigs[0].From = from
		if _, e := wire.ReadCert(wire.Cert(c)); e != api.OK {
			t.Fatal("not the bytes of the node 0")
		}
		judgedByAll(t, fmt.Sprint("from ", from, " as from 0"), 4, c, nil, false)
	}
	c := api.Cert{View: 5, Block: block, Sigs: votes(t, 4, 5, block, 0, 1, 2, 3)}
	c.Sigs[3].Tags[0], c.Sigs[3].Tags[1] = c.Sigs[3].Tags[0]+c.Sigs[3].Tags[1][:1], c.Sigs[3].Tags[1][1:]
	judgedByAll(t, "a byte in the tag ahead", 4, c, nil, false)
	c = api.Cert{View: 5, Block: block[:28], Sigs: []api.Sig{{From: 1, Tags: []string{wire.Number(0)}}}}
	if _, e := wire.ReadCert(wire.Cert(c)); e != api.OK {
		t.Fatal("not the bytes of a whole digest")
	}
	judgedByAll(t, "the digest's end among the signatures", 4, c, nil, false)
}

// A bit of one tag, turned, is seen by the one node that the tag is for.
func TestBentTags(t *testing.T) {
	for i := range 3 {
		for of := range 4 {
			for bit := range 8 * api.TagSize {
				c := cert.Make(5, block, votes(t, 4, 5, block, 0, 2, 3))
				b := []byte(c.Sigs[i].Tags[of])
				b[bit/8] ^= 1 << (bit % 8)
				c.Sigs[i].Tags[of] = string(b)
				for to := range 4 {
					good := []int{0, 2, 3}
					if to == of {
						good = without(good, good[i])
					}
					judged(t, fmt.Sprint("bit ", bit, " for ", of), to, 4, c, good, to != of)
				}
			}
		}
	}
}

// One bent signature among all four: three are left.
func TestBentAmongMore(t *testing.T) {
	for i := range 4 {
		c := cert.Make(5, block, votes(t, 4, 5, block, 0, 1, 2, 3))
		for of := range c.Sigs[i].Tags {
			c.Sigs[i].Tags[of] = strings.Repeat("x", 16)
		}
		judgedByAll(t, "one of four", 4, c, without(span(4), i), true)
		bent := (i + 2) % 4
		c.Sigs[bent].Tags[1] = c.Sigs[bent].Tags[0]
		for to := range 4 {
			good := without(span(4), i)
			if to == 1 {
				good = without(good, bent)
			}
			judged(t, "two of four", to, 4, c, good, to != 1)
		}
	}
}

// A signature told as another node's holds for nobody.
func TestBentFrom(t *testing.T) {
	for from := range 7 {
		for as := range 7 {
			s := vote(t, from, 7, 5, block)
			s.From = as
			rest := votes(t, 7, 5, block, without(span(7), as)...)
			c := cert.Make(5, block, append(rest[:4:4], s))
			good := slices.Clone(without(span(7), as)[:4])
			if as == from {
				good = append(good, as)
				slices.Sort(good)
			}
			judgedByAll(t, fmt.Sprint("of ", from, " as of ", as), 7, c, good, as == from)
		}
	}
}

// P5.2: two certificates of one view that hold, for two nodes, whatever their
// blocks, have more signers in common than the faults: of all quorums, with one
// of their nodes signing for both blocks, or all.
func TestTwoCertificates(t *testing.T) {
	other := blake.Sum("other")
	for n := 1; n <= 7; n++ {
		var a, b []api.Cert
		for bits := range 1 << n {
			if froms := members(bits); len(froms) >= quorums[n] {
				a = append(a, cert.Make(5, block, votes(t, n, 5, block, froms...)))
				b = append(b, cert.Make(5, other, votes(t, n, 5, other, froms...)))
			}
		}
		for i := range a {
			for j := range b {
				checkShared(t, n, i%n, j%n, a[i], b[j])
			}
		}
	}
}

// checkShared tells that two certificates hold, and by whom both are signed.
func checkShared(t *testing.T, n, one, two int, a, b api.Cert) {
	t.Helper()
	if !cert.Holds(seed, one, n, a) || !cert.Holds(seed, two, n, b) {
		t.Fatal("of", n, "nodes", one, two, "a quorum's certificate doesn't hold")
	}
	both := count.Shared(cert.Good(seed, one, n, a), cert.Good(seed, two, n, b), n)
	if faults := (n - 1) / 3; len(both) <= faults {
		t.Error("of", n, "nodes only", both, "have signed both")
	}
}

// P5.2: that holds, too, where tags are bent so that nodes see unlike signers:
// what still holds has a quorum that is its own.
func TestTwoBentCertificates(t *testing.T) {
	const n = 4
	for bits := range 1 << (2 * n) {
		a := cert.Make(5, block, votes(t, n, 5, block, span(n)...))
		b := cert.Make(5, block, votes(t, n, 5, block, span(n)...))
		var goodA, goodB []int
		for from := range n {
			if bits>>from&1 == 1 {
				a.Sigs[from].Tags[1] = strings.Repeat("x", 16)
			} else {
				goodA = append(goodA, from)
			}
			if bits>>(n+from)&1 == 1 {
				b.Sigs[from].Tags[2] = strings.Repeat("x", 16)
			} else {
				goodB = append(goodB, from)
			}
		}
		judged(t, "bent for 1", 1, n, a, goodA, len(goodA) >= 3)
		judged(t, "bent for 2", 2, n, b, goodB, len(goodB) >= 3)
		judged(t, "bent for 2 alone", 1, n, b, span(n), true)
		if len(goodA) >= 3 && len(goodB) >= 3 {
			checkShared(t, n, 1, 2, a, b)
		}
	}
}
