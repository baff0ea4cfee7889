package cert_test

import (
	"encoding/hex"
	"fmt"
	"reflect"
	"slices"
	"strings"
	"testing"

	"comitia/api"
	"comitia/blake"
	"comitia/cert"
	"comitia/mac"
	"comitia/wire"
)

const (
	greatest = 1<<63 - 1
	least    = -1 << 63
	seed     = "seed"
)

// block is the digest of the block that is voted for here.
var block = blake.Sum("block")

func hexOf(s string) string { return hex.EncodeToString([]byte(s)) }

// textByHand is a vote's text, by the chapter's words.
func textByHand(view int, h api.Hash) string {
	return "V" + wire.Number(view) + h
}

// vote is a vote that must be.
func vote(t *testing.T, from, n, view int, h api.Hash) api.Sig {
	t.Helper()
	s, e := mac.Sign(seed, from, n, textByHand(view, h))
	if e != api.OK {
		t.Fatal("Sign", from, n, e)
	}
	return s
}

// votes are the votes of some of n nodes, in this order.
func votes(t *testing.T, n, view int, h api.Hash, froms ...int) []api.Sig {
	t.Helper()
	var l []api.Sig
	for _, from := range froms {
		l = append(l, vote(t, from, n, view, h))
	}
	return l
}

// named is a signature that is told from others by its one tag.
func named(from int, name string) api.Sig {
	return api.Sig{From: from, Tags: []string{name}}
}

// firstsByHand is of each node's signatures the first one, by nodes.
func firstsByHand(l []api.Sig) []api.Sig {
	var froms []int
	for _, s := range l {
		if !slices.Contains(froms, s.From) {
			froms = append(froms, s.From)
		}
	}
	slices.Sort(froms)
	var firsts []api.Sig
	for _, from := range froms {
		firsts = append(firsts, l[slices.IndexFunc(l, func(s api.Sig) bool { return s.From == from })])
	}
	return firsts
}

// sameSigs tells whether two lists have like signatures; no tags are no tags.
func sameSigs(a, b []api.Sig) bool {
	return slices.EqualFunc(a, b, func(x, y api.Sig) bool {
		return x.From == y.From && slices.Equal(x.Tags, y.Tags)
	})
}

func checkMake(t *testing.T, view int, h api.Hash, l []api.Sig) {
	t.Helper()
	c := cert.Make(view, h, l)
	if want := firstsByHand(l); c.View != view || c.Block != h || !sameSigs(c.Sigs, want) {
		t.Errorf("%d, %x of %v\nis %v", view, h, l, c)
	}
}

func TestFirst(t *testing.T) {
	c := cert.First()
	const want = "0237b8d953b776de0bc1e9878bb1de39f8688f00b257adaec4a0a7a2910d950f"
	if c.View != 0 || hexOf(c.Block) != want || len(c.Sigs) != 0 {
		t.Error(c.View, hexOf(c.Block), c.Sigs)
	}
}

func TestText(t *testing.T) {
	for _, c := range []struct {
		view  int
		block api.Hash
		want  string
	}{
		{0, "", "5600000000"},
		{0, "a", "560000000061"},
		{1, "", "5600000001"},
		{5, "abc", "5600000005616263"},
		{258, "\x00", "560000010200"},
		{1000000, block, "56000f4240" + hexOf(block)},
		{1000001, block, "56000f4241" + hexOf(block)},
		{1<<31 - 1, block, "567fffffff" + hexOf(block)},
		// Others have no bytes of their own, but those of 0.
		{1 << 31, block, "5600000000" + hexOf(block)},
		{1<<32 + 5, block, "5600000000" + hexOf(block)},
		{greatest, block, "5600000000" + hexOf(block)},
		{-1, block, "5600000000" + hexOf(block)},
		{least, block, "5600000000" + hexOf(block)},
		{7, block[:31], "5600000007" + hexOf(block[:31])},
		{7, block + "x", "5600000007" + hexOf(block) + "78"},
		{7, strings.Repeat(block, 20), "5600000007" + strings.Repeat(hexOf(block), 20)},
	} {
		if got := hexOf(cert.Text(c.view, c.block)); got != c.want {
			t.Errorf("%d %x: %s, not %s", c.view, c.block, got, c.want)
		}
	}
}

// No two votes have one text.
func TestTextsAreApart(t *testing.T) {
	seen := map[string]string{}
	for _, view := range []int{0, 1, 2, 255, 256, 257, 65536, 1 << 24, 999999, 1000000} {
		for _, h := range []string{block, blake.Sum("first"), blake.Sum(""), strings.Repeat("\x00", 32)} {
			what := fmt.Sprintf("%d %x", view, h)
			if other, ok := seen[cert.Text(view, h)]; ok {
				t.Error(what, "is as", other)
			}
			seen[cert.Text(view, h)] = what
		}
	}
}

// The digests of the certificates' bytes were worked out by another program's
// BLAKE2s.
func TestMake(t *testing.T) {
	for _, c := range []struct {
		n, view int
		block   api.Hash
		froms   []int
		want    string
	}{
		{4, 5, block, []int{0, 2, 3}, "ade4f13ec2cd61371ed2418797be5c4bf9d0720d653199b4a9d774643c56d333"},
		{4, 5, block, []int{2, 0, 2, 3}, "ade4f13ec2cd61371ed2418797be5c4bf9d0720d653199b4a9d774643c56d333"},
		{4, 5, block, []int{3, 3, 2, 3, 0, 0, 2}, "ade4f13ec2cd61371ed2418797be5c4bf9d0720d653199b4a9d774643c56d333"},
		{7, 1000000, blake.Sum("first"), []int{6, 5, 4, 3, 2, 1, 0}, "65a40fd5eb3967eacf77b59fb1173efd48a7ddc85da0df1aa2424eff543a65a6"},
	} {
		got := hexOf(blake.Sum(wire.Cert(cert.Make(c.view, c.block, votes(t, c.n, c.view, c.block, c.froms...)))))
		if got != c.want {
			t.Error("of", c.froms, "is", got, "not", c.want)
		}
	}
}

func TestMakeOfNothing(t *testing.T) {
	for _, l := range [][]api.Sig{nil, {}, votes(t, 4, 5, block, 1)[:0]} {
		if c := cert.Make(5, block, l); c.View != 5 || c.Block != block || len(c.Sigs) != 0 {
			t.Error(c)
		}
		if c := cert.Make(0, blake.Sum("first"), l); wire.Cert(c) != wire.Cert(cert.First()) {
			t.Error(c)
		}
	}
}

// All lists of at most six signatures of four nodes, each signature unlike the
// others.
func TestMakeOfAllLists(t *testing.T) {
	for size := range 7 {
		for bits := range 1 << (2 * size) {
			var l []api.Sig
			for i := range size {
				l = append(l, named(bits>>(2*i)&3, fmt.Sprint(i)))
			}
			checkMake(t, 5, block, l)
		}
	}
}

// A long list, in which each node comes often, and out of order: a sort that
// keeps what is first in short lists alone would be seen.
func TestMakeOfMany(t *testing.T) {
	for _, nodes := range []int{1, 2, 3, 7, 100, 1000} {
		var l []api.Sig
		for i := range 1000 {
			l = append(l, named(i*i*37%nodes, fmt.Sprint(i)))
		}
		checkMake(t, 5, block, l)
		slices.Reverse(l)
		checkMake(t, 5, block, l)
	}
}

// In whatever order a quorum's votes come, the certificate is the same.
func TestMakeOfAllOrders(t *testing.T) {
	l := votes(t, 7, 9, block, 0, 1, 3, 4, 6)
	want := wire.Cert(api.Cert{View: 9, Block: block, Sigs: l})
	var orders func(k int)
	orders = func(k int) {
		if got := wire.Cert(cert.Make(9, block, l)); got != want {
			t.Fatal(l)
		}
		for i := range k {
			l[i], l[k-1] = l[k-1], l[i]
			orders(k - 1)
			l[i], l[k-1] = l[k-1], l[i]
		}
	}
	orders(len(l))
}

// Two signatures of one node that are unlike: the first one stays, be it the
// one that holds or not.
func TestMakeOfUnlike(t *testing.T) {
	right, other := vote(t, 2, 4, 5, block), vote(t, 2, 4, 5, blake.Sum("other"))
	rest := votes(t, 4, 5, block, 3, 0)
	for _, l := range [][]api.Sig{
		{right, other, rest[0], rest[1]},
		{rest[0], right, rest[1], other},
		{rest[0], right, other, right, rest[1], other},
	} {
		if c := cert.Make(5, block, l); !sameSigs(c.Sigs, []api.Sig{rest[1], right, rest[0]}) || !cert.Holds(seed, 1, 4, c) {
			t.Error(c)
		}
	}
	for _, l := range [][]api.Sig{
		{other, right, rest[0], rest[1]},
		{rest[0], other, rest[1], right},
		{other, right, right, rest[0], right, rest[1]},
	} {
		if c := cert.Make(5, block, l); !sameSigs(c.Sigs, []api.Sig{rest[1], other, rest[0]}) || cert.Holds(seed, 1, 4, c) {
			t.Error(c)
		}
	}
}

// What can't be is made as it comes.
func TestMakeOfWhatCantBe(t *testing.T) {
	odd := []api.Sig{
		named(7, "a"), named(-1, "b"), named(greatest, "c"), named(least, "d"), named(1<<32, "e"), named(0, "f"),
		{From: 1}, {From: 2, Tags: []string{}}, {From: 3, Tags: []string{"", "x", strings.Repeat("y", 40)}},
		named(least, "g"), named(-1, "h"), named(7, "i"), named(8, "j"), named(20, "k"), named(1<<31, "l"),
		{From: 5, Tags: slices.Repeat([]string{"0123456789abcdef"}, 30)},
	}
	for _, view := range []int{0, 1, 5, 1000000, 1000001, 1 << 31, greatest, -1, least} {
		for _, h := range []string{block, "", "x", block[:31], block + "x", cert.First().Block} {
			checkMake(t, view, h, odd)
			checkMake(t, view, h, odd[:5])
			checkMake(t, view, h, nil)
		}
	}
	slices.Reverse(odd)
	checkMake(t, 5, block, odd)
}

// guarded is a list with room behind it, and tags with room behind them, that
// must stay as they are.
func guarded(l []api.Sig) []api.Sig {
	own := []api.Sig{}
	for _, s := range append(slices.Clone(l), named(77, "spare"), named(-78, "spare")) {
		tags := append(slices.Clone(s.Tags), "spare", "too")
		own = append(own, api.Sig{From: s.From, Tags: tags[:len(s.Tags)]})
	}
	return own[:len(l)]
}

// whole is what a guarded list has, its spare room too.
func whole(l []api.Sig) []api.Sig {
	var all []api.Sig
	for _, s := range l[:len(l)+2] {
		all = append(all, api.Sig{From: s.From, Tags: slices.Clone(s.Tags[:len(s.Tags)+2])})
	}
	return all
}

// R5: what is handed in is left as it is, its spare room too.
func TestNothingIsChanged(t *testing.T) {
	for _, froms := range [][]int{nil, {0, 1, 2, 3}, {3, 2, 1, 0}, {2, 0, 2, 3, 0, 1}, {1, 1, 1}, {0, 0, 1, 2}} {
		l := guarded(votes(t, 4, 5, block, froms...))
		was := whole(l)
		cert.Make(5, block, l)
		c := api.Cert{View: 5, Block: block, Sigs: l}
		cert.Good(seed, 1, 4, c)
		cert.Holds(seed, 1, 4, c)
		c.View = 0
		cert.Good(seed, 1, 4, c)
		cert.Holds(seed, 1, 4, c)
		if now := whole(l); !reflect.DeepEqual(now, was) {
			t.Errorf("%v is now\n%v, not\n%v", froms, now, was)
		}
	}
}

// spoil writes over all memory of a list of signatures, its spare room too.
func spoil(l []api.Sig) {
	l = l[:cap(l)]
	for i := range l {
		tags := l[i].Tags[:cap(l[i].Tags)]
		for j := range tags {
			tags[j] = "spoilt"
		}
		l[i] = named(-5, "spoilt")
	}
}

// R5: what Make answers is new memory, with nothing of the argument in it, and
// nothing of what was answered before.
func TestCertificatesAreNew(t *testing.T) {
	for _, froms := range [][]int{{}, {0}, {0, 1, 2, 3}, {2, 0, 2, 3}, {3, 3, 3}} {
		l := guarded(votes(t, 4, 5, block, froms...))
		was := whole(l)
		first, second := cert.Make(5, block, l), cert.Make(5, block, l)
		want := wire.Cert(second)
		spoil(first.Sigs)
		if now := whole(l); !reflect.DeepEqual(now, was) {
			t.Error(froms, "the argument has memory of the answer:", now)
		}
		if wire.Cert(second) != want {
			t.Error(froms, "one answer has memory of another:", second)
		}
		third := cert.Make(5, block, l)
		spoil(l)
		if wire.Cert(third) != want || wire.Cert(second) != want {
			t.Error(froms, "the answer has memory of the argument:", third)
		}
	}
}

// Two signatures that have their tags in common have them no more.
func TestTagsAreNew(t *testing.T) {
	tags := vote(t, 0, 4, 5, block).Tags
	c := cert.Make(5, block, []api.Sig{{From: 1, Tags: tags}, {From: 0, Tags: tags}, {From: 2, Tags: tags[:2]}})
	spoil(c.Sigs[:1:1])
	if !slices.Equal(c.Sigs[1].Tags, tags) || !slices.Equal(c.Sigs[2].Tags, tags[:2]) {
		t.Error(c)
	}
}

// R5: what Good answers is new each time.
func TestNodesAreNew(t *testing.T) {
	c := cert.Make(5, block, votes(t, 4, 5, block, 0, 1, 2, 3))
	want := wire.Cert(c)
	first, second := cert.Good(seed, 1, 4, c), cert.Good(seed, 1, 4, c)
	clear(first[:cap(first)])
	if !slices.Equal(second, []int{0, 1, 2, 3}) || wire.Cert(c) != want {
		t.Error(second, c)
	}
	spoil(c.Sigs)
	if !slices.Equal(second, []int{0, 1, 2, 3}) {
		t.Error(second)
	}
}

// What one call was handed is gone when the next one comes.
func TestNothingIsKept(t *testing.T) {
	c := cert.Make(5, block, votes(t, 4, 5, block, 0, 1, 2, 3))
	if !cert.Holds(seed, 1, 4, c) {
		t.Fatal("it doesn't hold")
	}
	if d := cert.Make(6, block, votes(t, 4, 6, block, 1)); len(d.Sigs) != 1 || cert.Holds(seed, 1, 4, d) {
		t.Error(d)
	}
	if cert.Holds(seed, 1, 4, api.Cert{View: 5, Block: block}) || cert.First().View != 0 || len(cert.First().Sigs) != 0 {
		t.Error("a call answers what another was handed")
	}
}
