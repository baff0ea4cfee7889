package block_test

import (
	"encoding/hex"
	"fmt"
	"slices"
	"strings"
	"testing"

	"comitia/api"
	"comitia/blake"
	"comitia/block"
	"comitia/cert"
	"comitia/mac"
	"comitia/wire"
)

const (
	greatest = 1<<63 - 1
	least    = -1 << 63
	maxSeq   = 1<<31 - 1
	seed     = "seed"
)

// digest is of a block that votes are for here.
var digest = blake.Sum("block")

func hexOf(s string) string { return hex.EncodeToString([]byte(s)) }

// votes are the votes of some of n nodes, in this order.
func votes(t *testing.T, n, view int, h api.Hash, froms ...int) []api.Sig {
	t.Helper()
	var l []api.Sig
	for _, from := range froms {
		s, e := mac.Sign(seed, from, n, cert.Text(view, h))
		if e != api.OK {
			t.Fatal("Sign", from, n, e)
		}
		l = append(l, s)
	}
	return l
}

// certOf is the certificate of these nodes' votes, which rise.
func certOf(t *testing.T, n, view int, h api.Hash, froms ...int) api.Cert {
	t.Helper()
	return api.Cert{View: view, Block: h, Sigs: votes(t, n, view, h, froms...)}
}

func request(client, seq int, body string) api.Request {
	return api.Request{Client: client, Seq: seq, Body: body}
}

// unlikeByHand are the first requests of unlike client or Seq, at most three.
func unlikeByHand(l []api.Request) []api.Request {
	var first []api.Request
	for _, r := range l {
		there := slices.ContainsFunc(first, func(x api.Request) bool { return x.Client == r.Client && x.Seq == r.Seq })
		if !there && len(first) < 3 {
			first = append(first, r)
		}
	}
	return first
}

// sameBlock tells whether two blocks have like parts; an empty list is none.
func sameBlock(a, b api.Block) bool {
	return a.View == b.View && a.Proposer == b.Proposer && a.Justify.View == b.Justify.View &&
		a.Justify.Block == b.Justify.Block && slices.Equal(a.Batch, b.Batch) &&
		slices.EqualFunc(a.Justify.Sigs, b.Justify.Sigs, func(x, y api.Sig) bool {
			return x.From == y.From && slices.Equal(x.Tags, y.Tags)
		})
}

func checkMake(t *testing.T, view, n, leader int, c api.Cert, l []api.Request) {
	t.Helper()
	want := api.Block{View: view, Proposer: leader, Justify: c, Batch: unlikeByHand(l)}
	if got := block.Make(view, n, c, l); !sameBlock(got, want) {
		t.Errorf("view %d, %d nodes, of %v\nis %v\nnot %v", view, n, l, got, want)
	}
}

// The digests were worked out by another program's BLAKE2s, of bytes put
// together by the chapters' words.
func TestDigest(t *testing.T) {
	first := cert.First()
	for _, c := range []struct {
		b    api.Block
		want string
	}{
		{api.Block{View: 6, Proposer: 2, Justify: first,
			Batch: []api.Request{{Client: 1, Seq: 1, Body: "a"}, {Client: 1, Seq: 2}, {Client: 2, Seq: 1}}},
			"83288134ea141c26d5919a65f378c2e180d70a0429178ca320245c1d5e65e702"},
		{api.Block{View: 1, Proposer: 1, Justify: first},
			"8d21245060f438cfe64c9e68bf8f4c440553e14117ce58be3c2a8f1f9a9b7691"},
		{api.Block{View: 1000000, Proposer: 1, Justify: api.Cert{View: 999999, Block: digest, Sigs: votes(t, 4, 999999, digest, 0, 1, 3)},
			Batch: []api.Request{{Seq: 1, Body: strings.Repeat("x", 40)}, {Client: 3, Seq: maxSeq}, {Client: 2, Seq: 7, Body: "\x00\xff"}}},
			"90f08a9184f556b15e7d39a4a4ff7ca6e7926dcac980162e011c932e122eb568"},
		{api.Block{},
			"d63c83e59c43ae1201a972cea386c282557339e6079333a179c073ec17f0fbe1"},
		// What isn't right has a digest, too.
		{api.Block{View: -1, Proposer: -3, Justify: api.Cert{View: 9, Block: "q", Sigs: []api.Sig{{From: -1}}},
			Batch: []api.Request{{Client: 9, Body: strings.Repeat("z", 50)}, {Client: -1, Seq: -1}, {Client: 9}, {Client: 9}}},
			"8a461392ce3296cb4d6b70d7bf4d6e3a7dd793d61cbde6af62a828a501d893f3"},
	} {
		if got := hexOf(block.Digest(c.b)); got != c.want {
			t.Errorf("%v: %s, not %s", c.b, got, c.want)
		}
	}
}

// The chapter's example: whose signatures a certificate has is all one.
func TestDigestOfOtherSignatures(t *testing.T) {
	l := []api.Request{{Client: 1, Seq: 1, Body: "a"}}
	b := block.Make(6, 4, certOf(t, 4, 5, digest, 0, 1, 2), l)
	for _, sigs := range [][]api.Sig{
		votes(t, 4, 5, digest, 1, 2, 3), votes(t, 4, 5, digest, 0, 1, 2, 3), nil, {}, {{From: 9, Tags: []string{"x"}}},
	} {
		c := block.Make(6, 4, api.Cert{View: 5, Block: digest, Sigs: sigs}, l)
		if block.Digest(c) != block.Digest(b) {
			t.Error(sigs)
		}
		if block.Same(b, c) {
			t.Error("the same:", sigs)
		}
	}
}

// Whatever else is unlike makes another digest, and none is the first block's.
func TestDigestsAreApart(t *testing.T) {
	whole := api.Block{View: 6, Proposer: 2, Justify: certOf(t, 4, 5, digest, 0, 1, 2),
		Batch: []api.Request{{Client: 1, Seq: 1, Body: "a"}, {Client: 2, Seq: 3, Body: "b"}}}
	seen := map[string]string{block.First(): "the first block"}
	for what, change := range map[string]func(*api.Block){
		"as it is":         func(b *api.Block) {},
		"View":             func(b *api.Block) { b.View++ },
		"Proposer":         func(b *api.Block) { b.Proposer++ },
		"certificate's":    func(b *api.Block) { b.Justify.View-- },
		"parent":           func(b *api.Block) { b.Justify.Block = blake.Sum("other") },
		"no request":       func(b *api.Block) { b.Batch = nil },
		"one request less": func(b *api.Block) { b.Batch = b.Batch[:1] },
		"other order":      func(b *api.Block) { slices.Reverse(b.Batch) },
		"Client":           func(b *api.Block) { b.Batch[0].Client = 3 },
		"Seq":              func(b *api.Block) { b.Batch[1].Seq = 4 },
		"Body":             func(b *api.Block) { b.Batch[1].Body = "c" },
	} {
		b := whole
		b.Batch = slices.Clone(whole.Batch)
		change(&b)
		h := block.Digest(b)
		if other, ok := seen[h]; ok || len(h) != api.HashSize {
			t.Error(what, "is as", other, len(h))
		}
		seen[h] = what
	}
}

func TestParentAndFirst(t *testing.T) {
	const first = "0237b8d953b776de0bc1e9878bb1de39f8688f00b257adaec4a0a7a2910d950f"
	if got := hexOf(block.First()); got != first {
		t.Error(got)
	}
	if got := hexOf(block.Parent(block.Make(1, 4, cert.First(), nil))); got != first {
		t.Error(got)
	}
	for _, h := range []api.Hash{digest, "", "x", digest[:31], digest + "y", strings.Repeat("z", 1000)} {
		for _, b := range []api.Block{
			{Justify: api.Cert{Block: h}},
			{View: 6, Proposer: 2, Justify: api.Cert{View: 5, Block: h, Sigs: votes(t, 4, 5, digest, 0, 1, 2)}},
			{View: -1, Proposer: -1, Justify: api.Cert{View: -1, Block: h, Sigs: []api.Sig{{From: -1}}}},
		} {
			if got := block.Parent(b); got != h {
				t.Errorf("%x, not %x", got, h)
			}
		}
	}
	if got := block.Parent(api.Block{}); got != "" {
		t.Errorf("%x", got)
	}
}

// What stands on a block has it as its parent.
func TestParentIsDigest(t *testing.T) {
	b := block.Make(1, 4, cert.First(), []api.Request{{Client: 1, Seq: 1}})
	h := block.Digest(b)
	next := block.Make(2, 4, certOf(t, 4, 1, h, 0, 1, 2), nil)
	if block.Parent(next) != h || block.Parent(b) != block.First() {
		t.Errorf("%x", block.Parent(next))
	}
}

func TestMakeLeader(t *testing.T) {
	views := []int{0, 1, 2, 3, 6, 7, 8, 41, 420, 421, 999999, 1000000, 1000001, 1 << 31, greatest - 1, greatest}
	for _, view := range views {
		for n := 1; n <= 20; n++ {
			checkMake(t, view, n, view%n, cert.First(), nil)
		}
	}
	// 2^63 - 1 is of the remainders 0 by 7, and 7 by 8.
	checkMake(t, greatest, 7, 0, cert.First(), nil)
	checkMake(t, greatest, 8, 7, cert.First(), nil)
	for _, view := range append(views, -1, -2, -7, least) {
		for _, n := range []int{0, -1, -4, least} {
			checkMake(t, view, n, 0, cert.First(), nil)
		}
	}
	for _, view := range []int{-1, -2, -7, -1000000, least} {
		for n := 1; n <= 20; n++ {
			checkMake(t, view, n, 0, cert.First(), nil)
		}
	}
}

// None to 20 requests that are unlike: just as many as a batch may have, one
// less, and one more among them.
func TestMakeOfUnlike(t *testing.T) {
	for n := 1; n <= 7; n++ {
		var l []api.Request
		for i := range 21 {
			checkMake(t, 6, n, 6%n, cert.First(), l)
			if b := block.Make(6, n, cert.First(), l); len(b.Batch) != min(i, 3) {
				t.Errorf("%d of %d", len(b.Batch), i)
			}
			l = append(l, request(i%4, 1+i*i, fmt.Sprint(i)))
		}
		checkMake(t, 6, n, 6%n, cert.First(), []api.Request{})
		checkMake(t, 6, n, 6%n, cert.First(), l[5:5])
	}
}

// All lists of at most six requests of two clients and two Seqs, each with
// another body.
func TestMakeOfAllLists(t *testing.T) {
	for size := range 7 {
		for bits := range 1 << (2 * size) {
			var l []api.Request
			for i := range size {
				l = append(l, request(bits>>(2*i)&1, 1+bits>>(2*i+1)&1, fmt.Sprint(i)))
			}
			checkMake(t, 6, 4, 2, cert.First(), l)
		}
	}
}

func TestMakeOfLike(t *testing.T) {
	a, b, c, d := request(1, 1, "a"), request(1, 2, "b"), request(2, 1, "c"), request(2, 2, "d")
	again, other := a, request(1, 1, "other")
	for _, x := range []struct{ l, want []api.Request }{
		{[]api.Request{a, again}, []api.Request{a}},
		{[]api.Request{a, other}, []api.Request{a}},
		{[]api.Request{other, a}, []api.Request{other}},
		{[]api.Request{a, b, other, c, d}, []api.Request{a, b, c}},
		{[]api.Request{other, again, b, c}, []api.Request{other, b, c}},
		{[]api.Request{a, b, again, b, a, a, d}, []api.Request{a, b, d}},
		{[]api.Request{a, b, c, d, again}, []api.Request{a, b, c}},
		{[]api.Request{d, c, b, a}, []api.Request{d, c, b}},
		// One client with unlike Seqs, and one Seq with unlike clients.
		{[]api.Request{request(0, 3, ""), request(0, 2, ""), request(0, 1, "")}, []api.Request{request(0, 3, ""), request(0, 2, ""), request(0, 1, "")}},
		{[]api.Request{request(3, 1, ""), request(2, 1, ""), request(1, 1, "")}, []api.Request{request(3, 1, ""), request(2, 1, ""), request(1, 1, "")}},
		{[]api.Request{request(1, 2, "x"), request(2, 1, "x")}, []api.Request{request(1, 2, "x"), request(2, 1, "x")}},
		{[]api.Request{request(1, 11, "x"), request(11, 1, "x"), request(1, 111, "x")}, []api.Request{request(1, 11, "x"), request(11, 1, "x"), request(1, 111, "x")}},
	} {
		if got := block.Make(6, 4, cert.First(), x.l).Batch; !slices.Equal(got, x.want) {
			t.Errorf("%v\nis %v\nnot %v", x.l, got, x.want)
		}
	}
}

// No two numbers that are unlike are taken for one, however they lie.
func TestMakeTellsAllApart(t *testing.T) {
	var all []api.Request
	for client := range 13 {
		for seq := range 125 {
			all = append(all, request(client, seq, ""))
		}
	}
	const many = 1 << 31
	for _, x := range []int{-many * 2, -many, -1, many - 1, many, many * 2, many*2 + 1, greatest, least} {
		all = append(all, request(x, 1, ""), request(1, x, ""), request(x, x, ""), request(x, 0, ""), request(0, x, ""))
	}
	for i, a := range all {
		for _, b := range all[i+1:] {
			if n := len(block.Make(6, 4, cert.First(), []api.Request{a, b}).Batch); n != 2 {
				t.Fatal(a, b, n)
			}
		}
	}
}

// Of many that are alike the unlike ones far behind are found.
func TestMakeOfMany(t *testing.T) {
	const many = 300000
	l := make([]api.Request, many)
	for i := range l {
		l[i] = request(1, 1, fmt.Sprint(i))
	}
	l[many-1], l[many-2], l[1000] = request(3, 1, "last"), request(1, 3, "last but one"), request(2, 1, "b")
	want := []api.Request{l[0], l[1000], l[many-2]}
	if got := block.Make(6, 4, cert.First(), l).Batch; !slices.Equal(got, want) {
		t.Error(got)
	}
}

// Requests and certificates that aren't right go in as they come.
func TestMakeOfWhatIsNotRight(t *testing.T) {
	l := []api.Request{
		request(-1, 0, strings.Repeat("b", 41)), request(-1, 0, ""), request(1<<32-1, 0, ""), request(-1, 1<<32, ""),
		request(greatest, least, "x"), request(least, greatest, "y"), request(0, 0, ""), request(1<<32, 0, ""),
	}
	certs := []api.Cert{
		{}, {View: -1, Block: "x"}, {View: greatest, Block: strings.Repeat("b", 100)}, {View: least},
		{View: 9, Block: digest, Sigs: []api.Sig{{From: 5}, {From: 5, Tags: []string{""}}, {From: -1, Tags: []string{}}, {From: 1, Tags: []string{"a", "b"}}}},
	}
	for _, c := range certs {
		for from := range l {
			checkMake(t, 6, 4, 2, c, l[from:])
			checkMake(t, 0, 4, 0, c, l[from:])
			checkMake(t, -1, 4, 0, c, l[from:])
		}
	}
}

func TestSame(t *testing.T) {
	whole := func() api.Block {
		return api.Block{View: 6, Proposer: 2, Justify: certOf(t, 4, 5, digest, 0, 1, 2),
			Batch: []api.Request{{Client: 1, Seq: 1, Body: "a"}, {Client: 2, Seq: 3, Body: "b"}}}
	}
	if !block.Same(whole(), whole()) || !block.Same(api.Block{}, api.Block{}) {
		t.Error("not the same")
	}
	for what, change := range map[string]func(*api.Block){
		"View":               func(b *api.Block) { b.View++ },
		"Proposer":           func(b *api.Block) { b.Proposer++ },
		"certificate's view": func(b *api.Block) { b.Justify.View-- },
		"parent":             func(b *api.Block) { b.Justify.Block = blake.Sum("other") },
		"no signature":       func(b *api.Block) { b.Justify.Sigs = nil },
		"a signature less":   func(b *api.Block) { b.Justify.Sigs = b.Justify.Sigs[1:] },
		"signature's node":   func(b *api.Block) { b.Justify.Sigs[2].From = 3 },
		"a tag":              func(b *api.Block) { b.Justify.Sigs[2].Tags[3] = strings.Repeat("t", 16) },
		"a tag less":         func(b *api.Block) { b.Justify.Sigs[2].Tags = b.Justify.Sigs[2].Tags[:3] },
		"signatures' order":  func(b *api.Block) { slices.Reverse(b.Justify.Sigs) },
		"no request":         func(b *api.Block) { b.Batch = nil },
		"a request less":     func(b *api.Block) { b.Batch = b.Batch[:1] },
		"requests' order":    func(b *api.Block) { slices.Reverse(b.Batch) },
		"Client":             func(b *api.Block) { b.Batch[0].Client = 3 },
		"Seq":                func(b *api.Block) { b.Batch[1].Seq = 4 },
		"Body":               func(b *api.Block) { b.Batch[1].Body = "c" },
		"all":                func(b *api.Block) { *b = api.Block{} },
	} {
		b := whole()
		change(&b)
		if block.Same(b, whole()) || block.Same(whole(), b) || !block.Same(b, b) {
			t.Error(what)
		}
	}
}

// What isn't right has bytes, too, and others than it may have the same.
func TestSameBytesOfWhatIsNotRight(t *testing.T) {
	for _, c := range []struct {
		a, b api.Block
		want bool
	}{
		{api.Block{View: -1, Proposer: least}, api.Block{View: 1 << 31}, true},
		{api.Block{View: 1 << 32}, api.Block{Proposer: -7}, true},
		{api.Block{View: -1}, api.Block{View: 1}, false},
		{api.Block{Justify: api.Cert{Sigs: []api.Sig{}}, Batch: []api.Request{}}, api.Block{}, true},
		{api.Block{Justify: api.Cert{Sigs: []api.Sig{{From: 1, Tags: []string{}}}}}, api.Block{Justify: api.Cert{Sigs: []api.Sig{{From: 1}}}}, true},
		{api.Block{Justify: api.Cert{Sigs: []api.Sig{{Tags: []string{"a", "bc"}}}}}, api.Block{Justify: api.Cert{Sigs: []api.Sig{{Tags: []string{"ab", "c"}}}}}, true},
		{api.Block{Justify: api.Cert{Block: "\x00\x00\x00\x00"}}, api.Block{Batch: []api.Request{}}, false},
		{api.Block{Justify: api.Cert{Block: "\x00\x00\x00\x00"}}, api.Block{Justify: api.Cert{Block: "\x00\x00\x00\x01"}}, false},
		{api.Block{Batch: make([]api.Request, 4)}, api.Block{Batch: make([]api.Request, 4)}, true},
		{api.Block{Batch: make([]api.Request, 4)}, api.Block{Batch: make([]api.Request, 5)}, false},
	} {
		if got := block.Same(c.a, c.b); got != c.want || block.Same(c.b, c.a) != c.want {
			t.Errorf("%v\n%v: %v", c.a, c.b, got)
		}
		if same := wire.Block(c.a) == wire.Block(c.b); same != c.want {
			t.Errorf("bytes of %v\n%v: %v", c.a, c.b, same)
		}
	}
}

// roomy is a list with room behind it, in which something stands.
func roomy[T any](l []T, spare T) []T {
	return append(slices.Clone(l), spare, spare)[:len(l)]
}

// allOf tells all that a block's lists have, as far as they have room.
func allOf(b api.Block) string {
	told := fmt.Sprint(b, b.Batch[:cap(b.Batch)])
	for _, s := range b.Justify.Sigs[:cap(b.Justify.Sigs)] {
		told += fmt.Sprint(s.From, s.Tags[:cap(s.Tags)])
	}
	return told
}

// R5: what is handed in is left as it is, its spare room too.
func TestNothingIsChanged(t *testing.T) {
	a, b := request(1, 1, "a"), request(2, 1, "b")
	for _, batch := range [][]api.Request{nil, {a}, {a, b}, {a, a}, {a, b, a, request(2, 2, "c"), request(3, 3, "d")}} {
		c := certOf(t, 4, 5, digest, 0, 1, 2)
		for i, s := range c.Sigs {
			c.Sigs[i].Tags = roomy(s.Tags, "spare")
		}
		c.Sigs = roomy(c.Sigs, api.Sig{From: 77, Tags: []string{"spare"}})
		x := api.Block{View: 6, Proposer: 2, Justify: c, Batch: roomy(batch, request(88, 88, "spare"))}
		was := allOf(x)
		block.Make(6, 4, c, x.Batch)
		block.Digest(x)
		block.Parent(x)
		block.Same(x, x)
		block.Well(seed, 1, 4, x)
		block.Well(seed, 1, 7, x)
		if now := allOf(x); now != was {
			t.Errorf("%v\nis now\n%v", was, now)
		}
	}
}

// R5: what is answered is new memory, its spare room too.
func TestMakeIsNewMemory(t *testing.T) {
	for _, size := range []int{1, 2, 3, 4, 10} {
		c := certOf(t, 4, 5, digest, 0, 1, 2)
		var l []api.Request
		for i := range size {
			l = append(l, request(i%4, i+1, "a"))
		}
		one, two := block.Make(6, 4, c, l), block.Make(6, 4, c, l)
		was := wire.Block(two)
		spoil(&one)
		if wire.Block(two) != was || !sameBlock(block.Make(6, 4, c, l), two) {
			t.Error("what is answered is shared:", size)
		}
		lost := api.Block{Justify: c, Batch: l}
		spoil(&lost)
		if wire.Block(two) != was {
			t.Error("what is handed in is kept:", size)
		}
	}
}

// spoil writes over all that a block has, as far as its lists have room.
func spoil(b *api.Block) {
	sigs := b.Justify.Sigs[:cap(b.Justify.Sigs)]
	for i := range sigs {
		tags := sigs[i].Tags[:cap(sigs[i].Tags)]
		for k := range tags {
			tags[k] = "spoilt"
		}
		sigs[i] = api.Sig{From: 55}
	}
	batch := b.Batch[:cap(b.Batch)]
	for i := range batch {
		batch[i] = request(55, 55, "spoilt")
	}
}
