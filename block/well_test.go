package block_test

import (
	"fmt"
	"slices"
	"strings"
	"testing"

	"comitia/api"
	"comitia/blake"
	"comitia/block"
	"comitia/cert"
	"comitia/count"
)

func checkWell(t *testing.T, what string, to, n int, b api.Block, want api.Errno) {
	t.Helper()
	if e := block.Well(seed, to, n, b); e != want {
		t.Errorf("%s, for %d of %d: %d, not %d", what, to, n, e, want)
	}
}

// good is a block of four nodes that is well for each of them.
func good(t *testing.T) api.Block {
	t.Helper()
	return api.Block{View: 6, Proposer: 2, Justify: certOf(t, 4, 5, digest, 0, 1, 2),
		Batch: []api.Request{{Client: 1, Seq: 1, Body: "a"}, {Client: 1, Seq: 2}, {Client: 2, Seq: 1, Body: "b"}}}
}

func TestWell(t *testing.T) {
	b := good(t)
	for to := range 4 {
		checkWell(t, "good", to, 4, b, api.OK)
	}
	for what, change := range map[string]func(*api.Block){
		"no request":              func(b *api.Block) { b.Batch = nil },
		"empty batch":             func(b *api.Block) { b.Batch = []api.Request{} },
		"one request":             func(b *api.Block) { b.Batch = b.Batch[:1] },
		"two requests":            func(b *api.Block) { b.Batch = b.Batch[:2] },
		"greater view":            func(b *api.Block) { b.View = 10 },
		"greatest view":           func(b *api.Block) { b.View, b.Proposer = api.MaxView, 0 },
		"all signatures":          func(b *api.Block) { b.Justify = certOf(t, 4, 5, digest, 0, 1, 2, 3) },
		"others":                  func(b *api.Block) { b.Justify = certOf(t, 4, 5, digest, 0, 2, 3) },
		"the first certificate":   func(b *api.Block) { b.Justify = cert.First() },
		"an empty list in it":     func(b *api.Block) { b.Justify = api.Cert{Block: cert.First().Block, Sigs: []api.Sig{}} },
		"view 1":                  func(b *api.Block) { b.View, b.Proposer, b.Justify = 1, 1, cert.First() },
		"greatest Client and Seq": func(b *api.Block) { b.Batch = []api.Request{request(3, maxSeq, strings.Repeat("b", 40))} },
		"least Client and Seq":    func(b *api.Block) { b.Batch = []api.Request{request(0, 1, "")} },
		"like bodies":             func(b *api.Block) { b.Batch = []api.Request{request(1, 2, "x"), request(2, 1, "x")} },
		"one that doesn't hold": func(b *api.Block) {
			b.Justify = certOf(t, 4, 5, digest, 0, 1, 2, 3)
			b.Justify.Sigs[2].Tags = slices.Repeat([]string{strings.Repeat("t", 16)}, 4)
		},
	} {
		b := good(t)
		change(&b)
		for to := range 4 {
			checkWell(t, what, to, 4, b, api.OK)
		}
	}
}

// notRight are all the ways in which a good block isn't right any more.
func notRight(t *testing.T) map[string]func(*api.Block) {
	like := func(a, b api.Request) func(*api.Block) {
		return func(x *api.Block) { x.Batch = []api.Request{a, b} }
	}
	r := request(1, 1, "a")
	return map[string]func(*api.Block){
		"View 0":        func(b *api.Block) { b.View = 0 },
		"View -1":       func(b *api.Block) { b.View = -1 },
		"View too high": func(b *api.Block) { b.View, b.Proposer = api.MaxView+1, 1 },
		"View 2^32 + 6": func(b *api.Block) { b.View = 1<<32 + 6 },
		"greatest View": func(b *api.Block) { b.View = greatest },
		"least View":    func(b *api.Block) { b.View = least },
		"Proposer -1":   func(b *api.Block) { b.View, b.Proposer = 8, -1 },
		"Proposer 7":    func(b *api.Block) { b.Proposer = 7 },
		"Proposer 2^32": func(b *api.Block) { b.View, b.Proposer = 8, 1<<32 },

		"certificate of the same view":  func(b *api.Block) { b.Justify = certOf(t, 4, 6, digest, 0, 1, 2) },
		"certificate of a greater view": func(b *api.Block) { b.Justify = certOf(t, 4, 7, digest, 0, 1, 2) },
		"certificate of view -1":        func(b *api.Block) { b.Justify.View = -1 },
		"first one, but of view -1":     func(b *api.Block) { b.Justify = api.Cert{View: -1, Block: cert.First().Block} },
		"first one, but of view 2^31":   func(b *api.Block) { b.Justify = api.Cert{View: 1 << 31, Block: cert.First().Block} },
		"zero certificate":              func(b *api.Block) { b.Justify = api.Cert{} },
		"short digest":                  func(b *api.Block) { b.Justify.Block = digest[:31] },
		"long digest":                   func(b *api.Block) { b.Justify.Block = digest + "x" },
		"digest that goes on": func(b *api.Block) {
			b.Justify = api.Cert{View: 5, Block: digest + "\x00\x00\x00\x00"}
			b.Batch = nil
		},
		"signature of -1":          func(b *api.Block) { b.Justify.Sigs[0].From = -1 },
		"signature of 7":           func(b *api.Block) { b.Justify.Sigs[2].From = 7 },
		"one node twice":           func(b *api.Block) { b.Justify.Sigs[1].From = 0 },
		"signatures out of order":  func(b *api.Block) { slices.Reverse(b.Justify.Sigs) },
		"eight signatures":         func(b *api.Block) { b.Justify.Sigs = make([]api.Sig, 8) },
		"short tag":                func(b *api.Block) { b.Justify.Sigs[0].Tags[3] = "short" },
		"long tag":                 func(b *api.Block) { b.Justify.Sigs[0].Tags[3] += "x" },
		"tags cut at other places": func(b *api.Block) { moveByte(b.Justify.Sigs[0].Tags) },
		"eight tags":               func(b *api.Block) { b.Justify.Sigs[0].Tags = slices.Repeat([]string{strings.Repeat("t", 16)}, 8) },

		"four requests": func(b *api.Block) { b.Batch = append(b.Batch, request(3, 1, "")) },
		"Client -1":     func(b *api.Block) { b.Batch[1].Client = -1 },
		"Client 4":      func(b *api.Block) { b.Batch[1].Client = 4 },
		"Client 2^32":   func(b *api.Block) { b.Batch[1].Client = 1 << 32 },
		"Seq 0":         func(b *api.Block) { b.Batch[2].Seq = 0 },
		"Seq -1":        func(b *api.Block) { b.Batch[2].Seq = -1 },
		"Seq 2^32 + 1":  func(b *api.Block) { b.Batch[2].Seq = 1<<32 + 1 },
		"Body too long": func(b *api.Block) { b.Batch[0].Body = strings.Repeat("b", 41) },

		"a request twice":            like(r, r),
		"two of a client and Seq":    like(r, request(1, 1, "other")),
		"two of them at the ends":    func(b *api.Block) { b.Batch[2] = b.Batch[0] },
		"two of them last":           func(b *api.Block) { b.Batch[2] = request(1, 2, "other") },
		"three of a client and Seq":  func(b *api.Block) { b.Batch = []api.Request{r, r, r} },
		"two of the greatest number": like(request(3, maxSeq, "x"), request(3, maxSeq, "y")),
	}
}

// moveByte moves a byte from the first tag to the second.
func moveByte(tags []string) {
	last := len(tags[0]) - 1
	tags[0], tags[1] = tags[0][:last], tags[0][last:]+tags[1]
}

func TestNotRight(t *testing.T) {
	for what, change := range notRight(t) {
		b := good(t)
		change(&b)
		for to := range 4 {
			checkWell(t, what, to, 4, b, api.ErrForm)
		}
	}
	checkWell(t, "zero", 1, 4, api.Block{}, api.ErrForm)
}

// All batches of at most four requests of two clients and two Seqs.
func TestAllBatches(t *testing.T) {
	for size := range 5 {
		for bits := range 1 << (2 * size) {
			b := api.Block{View: 6, Proposer: 2, Justify: cert.First()}
			for i := range size {
				b.Batch = append(b.Batch, request(bits>>(2*i)&1, 1+bits>>(2*i+1)&1, fmt.Sprint(i)))
			}
			want := api.OK
			if len(unlikeByHand(b.Batch)) < size {
				want = api.ErrForm
			}
			checkWell(t, fmt.Sprint(b.Batch), 1, 4, b, want)
		}
	}
}

// What may be n, and to.
func TestNodes(t *testing.T) {
	for _, n := range []int{least, -4, -1, 0, 1, 2, 3, 4, 5, 6, 7, 8, 9, 20, 1 << 32, 1<<32 + 4, greatest} {
		for _, to := range []int{least, -4, -1, 0, 1, 2, 3, 4, 5, 6, 7, 8, n - 1, n, n + 1, 1 << 32, greatest} {
			b := api.Block{View: 420, Justify: cert.First()}
			want := api.OK
			if n < 1 || n > 7 || to < 0 || to >= n {
				want = api.ErrArg
			}
			checkWell(t, "view 420", to, n, b, want)
		}
	}
}

func TestProposer(t *testing.T) {
	for n := 1; n <= 7; n++ {
		for _, view := range []int{1, 2, 3, 4, 5, 6, 7, 8, 419, 420, 421, 999999, 1000000} {
			for proposer := range 7 {
				want := api.OK
				if proposer != view%n {
					want = api.ErrOrder
				}
				b := api.Block{View: view, Proposer: proposer, Justify: cert.First()}
				for to := range n {
					checkWell(t, fmt.Sprint("view ", view, " by ", proposer), to, n, b, want)
				}
			}
		}
	}
}

// notHeld are the ways in which a good block's certificate is right but
// doesn't hold.
func notHeld(t *testing.T) map[string]func(*api.Block) {
	return map[string]func(*api.Block){
		"no signature":               func(b *api.Block) { b.Justify.Sigs = nil },
		"one less than a quorum":     func(b *api.Block) { b.Justify.Sigs = b.Justify.Sigs[:2] },
		"votes in another view":      func(b *api.Block) { b.Justify.View = 4 },
		"votes for another block":    func(b *api.Block) { b.Justify.Block = blake.Sum("other") },
		"a vote of another":          func(b *api.Block) { b.Justify.Sigs[2].From = 3 },
		"votes of five nodes":        func(b *api.Block) { b.Justify = certOf(t, 5, 5, digest, 0, 1, 2) },
		"a tag less":                 func(b *api.Block) { b.Justify.Sigs[1].Tags = b.Justify.Sigs[1].Tags[:3] },
		"no tags":                    func(b *api.Block) { b.Justify.Sigs[1].Tags = nil },
		"another in the view 0":      func(b *api.Block) { b.Justify = certOf(t, 4, 0, digest, 0, 1, 2, 3) },
		"first block, with votes":    func(b *api.Block) { b.Justify = certOf(t, 4, 0, block.First(), 0, 1, 2, 3) },
		"first block, of the view 1": func(b *api.Block) { b.Justify = api.Cert{View: 1, Block: block.First()} },
	}
}

func TestNotHeld(t *testing.T) {
	for what, change := range notHeld(t) {
		b := good(t)
		change(&b)
		for to := range 4 {
			checkWell(t, what, to, 4, b, api.ErrCert)
		}
	}
	b := good(t)
	if e := block.Well("other seed", 1, 4, b); e != api.ErrCert {
		t.Error("another seed:", e)
	}
	b.Justify = cert.First()
	if e := block.Well("other seed", 1, 4, b); e != api.OK {
		t.Error("another seed, the first certificate:", e)
	}
}

// A certificate that holds for one node alone.
func TestHeldForOne(t *testing.T) {
	for one := range 4 {
		b := good(t)
		for _, s := range b.Justify.Sigs {
			for to := range s.Tags {
				if to != one {
					s.Tags[to] = strings.Repeat("t", 16)
				}
			}
		}
		for to := range 4 {
			want := api.ErrCert
			if to == one {
				want = api.OK
			}
			checkWell(t, fmt.Sprint("for ", one), to, 4, b, want)
		}
	}
}

// Of several errors the first one is told. Under another seed no certificate
// of votes holds.
func TestFirstError(t *testing.T) {
	forms := notRight(t)
	forms["right"] = func(*api.Block) {}
	for form, change := range forms {
		for _, nodes := range [][2]int{{1, 4}, {-1, 4}, {4, 4}, {0, 0}, {-1, 0}, {0, -1}, {0, 8}, {7, 8}, {-1, 8}} {
			for off := range 2 {
				for _, read := range []string{seed, "other seed"} {
					b := good(t)
					b.Proposer += off
					change(&b)
					want := api.OK
					switch {
					case form != "right":
						want = api.ErrForm
					case nodes != [2]int{1, 4}:
						want = api.ErrArg
					case off != 0:
						want = api.ErrOrder
					case read != seed:
						want = api.ErrCert
					}
					if e := block.Well(read, nodes[0], nodes[1], b); e != want {
						t.Errorf("%s, nodes %v, leader + %d, %s: %d, not %d", form, nodes, off, read, e, want)
					}
				}
			}
		}
	}
}

// So it is with each certificate that doesn't hold.
func TestFirstErrorOfNotHeld(t *testing.T) {
	for what, change := range notHeld(t) {
		b := good(t)
		change(&b)
		b.Proposer = 3
		checkWell(t, what, 1, 4, b, api.ErrOrder)
		checkWell(t, what, 4, 4, b, api.ErrArg)
		checkWell(t, what, 0, 0, b, api.ErrArg)
		b.Batch = append(b.Batch[:2], b.Batch[0])
		checkWell(t, what, 1, 4, b, api.ErrForm)
		checkWell(t, what, 4, 4, b, api.ErrForm)
	}
}

// lists are requests that are right, some of one client and Seq.
func lists() [][]api.Request {
	var long []api.Request
	for i := range 20 {
		long = append(long, request(i%4, 1+i/8, strings.Repeat("b", 2*i)))
	}
	a, b := request(1, 1, "a"), request(1, 1, "b")
	return [][]api.Request{nil, {}, {a}, {a, b}, {b, a, request(2, 1, ""), request(1, 2, "")}, {a, a, a, a, a}, long}
}

// checkMade tells that what is made is well for each of n nodes.
func checkMade(t *testing.T, view, n int, c api.Cert, l []api.Request) {
	t.Helper()
	b := block.Make(view, n, c, l)
	for to := range n {
		checkWell(t, fmt.Sprint("view ", view, " of ", l), to, n, b, api.OK)
	}
}

// P6.3: what is made of the first certificate, and what stands on it with a
// quorum's votes, and so on, is well for each node.
func TestMadeIsWell(t *testing.T) {
	for n := 1; n <= 7; n++ {
		for _, l := range lists() {
			for _, views := range [][]int{{1, 2, 3}, {1, 999999, 1000000}, {5, 6, 20}, {999998, 999999, 1000000}} {
				c := cert.First()
				for _, view := range views {
					checkMade(t, view, n, c, l)
					h := block.Digest(block.Make(view, n, c, l))
					var froms []int
					for i := range count.Quorum(n) {
						froms = append(froms, (i+view)%n)
					}
					c = cert.Make(view, h, votes(t, n, view, h, froms...))
				}
			}
		}
	}
}

// Each quorum's certificate, and each greater one, will do; none that is less.
func TestMadeOfEachQuorum(t *testing.T) {
	l := lists()[4]
	for n := 1; n <= 7; n++ {
		first := block.Make(3, n, cert.First(), l)
		h := block.Digest(first)
		all := votes(t, n, 3, h, []int{0, 1, 2, 3, 4, 5, 6}[:n]...)
		for set := range 1 << n {
			var some []api.Sig
			for i, s := range all {
				if set>>i&1 == 1 {
					some = append(some, s)
				}
			}
			c := cert.Make(3, h, some)
			if len(some) >= count.Quorum(n) {
				checkMade(t, 8, n, c, l)
			} else {
				checkWell(t, fmt.Sprint("set ", set), 0, n, block.Make(8, n, c, l), api.ErrCert)
			}
		}
	}
}

// What is made in a view that isn't greater, or too great, isn't well.
func TestMadeOfOtherViews(t *testing.T) {
	for n := 1; n <= 7; n++ {
		for _, view := range []int{0, -1, least, api.MaxView + 1, greatest} {
			checkWell(t, "of the first", 0, n, block.Make(view, n, cert.First(), nil), api.ErrForm)
		}
		c := certOf(t, n, 5, digest, []int{0, 1, 2, 3, 4, 5, 6}[:n]...)
		for _, view := range []int{0, 1, 4, 5} {
			checkWell(t, "of the view 5", 0, n, block.Make(view, n, c, nil), api.ErrForm)
		}
		checkMade(t, 6, n, c, nil)
	}
}

// What isn't right stays so when a block is made of it.
func TestMadeOfWhatIsNotRight(t *testing.T) {
	for _, r := range []api.Request{request(-1, 1, ""), request(4, 1, ""), request(1, 0, ""), request(1, -1, ""), request(1, 1, strings.Repeat("b", 41))} {
		checkWell(t, fmt.Sprint(r), 1, 4, block.Make(6, 4, cert.First(), []api.Request{request(2, 2, "x"), r}), api.ErrForm)
		// Behind three that go in it does no harm.
		checkWell(t, fmt.Sprint(r), 1, 4, block.Make(6, 4, cert.First(), []api.Request{request(2, 2, "x"), request(2, 3, ""), request(2, 4, ""), r}), api.OK)
	}
	for _, c := range []api.Cert{{}, {View: -1, Block: cert.First().Block}, {View: 1, Block: "x"}} {
		checkWell(t, fmt.Sprint(c), 1, 4, block.Make(6, 4, c, nil), api.ErrForm)
	}
}
