package mac_test

import (
	"encoding/hex"
	"fmt"
	"slices"
	"strings"
	"testing"

	"comitia/api"
	"comitia/blake"
	"comitia/mac"
	"comitia/wire"
)

const (
	greatest = 1<<63 - 1
	least    = -1 << 63
)

// outside are numbers that no node has.
var outside = []int{-1, -2, -20, least, 21, 22, 255, 256, 1<<31 - 1, 1 << 31, 1 << 32, 1<<32 + 3, greatest}

// data is n bytes of a fixed pattern.
func data(n int) string {
	b := make([]byte, n)
	for i := range b {
		b[i] = byte(7*i + 3)
	}
	return string(b)
}

func check(t *testing.T, what, got, want string) {
	t.Helper()
	if x := hex.EncodeToString([]byte(got)); x != want {
		t.Errorf("%s: %s, not %s", what, x, want)
	}
}

// byHand is the key of two nodes, the lesser one named first.
func byHand(seed string, lesser, greater int) string {
	return blake.Sum("K" + wire.Text(seed) + wire.Number(lesser) + wire.Number(greater))
}

// sign is a signature that must be.
func sign(t *testing.T, seed string, from, n int, text string) api.Sig {
	t.Helper()
	s, e := mac.Sign(seed, from, n, text)
	if e != api.OK {
		t.Fatal("Sign", from, n, e)
	}
	return s
}

// The keys, tags and digests that are written out in this file were worked out
// by another program's BLAKE2s.

func TestKey(t *testing.T) {
	for _, c := range []struct {
		seed string
		a, b int
		want string
	}{
		{"s", 1, 3, "e5f8e6bf5141e1f9c526b21f7524812268bd81ee4b93b24cbc48e4c937d3985c"},
		{"s", 3, 1, "e5f8e6bf5141e1f9c526b21f7524812268bd81ee4b93b24cbc48e4c937d3985c"},
		{"s", 1, 1, "1c8a1ef36f71e136eca4a71f82e96b5d0a90d5f0e4083e586c3dee36d4d78126"},
		{"", 0, 0, "186becb645650a4567b130b5cd49b7c0e9621d2ccfa591aac70a9cdb71c3cace"},
		{"", 0, 20, "6cde6ca3d2ecc0339d0c51c7d32a9710647d2c0007c360bc92f5b0882914bcd8"},
		{"seed", 0, 6, "f48571292d584e87c2cfca4646c3ed418764ba2945bf4bcbacc6b421f4e003c1"},
		{"seed", 10, 2, "a97e306f3212f435032cd8c5a6f58d50c1d9c72054124e0732b8cd8f8063070a"},
		{"seed", 19, 20, "2adeb2c072592042486e872744b0ab614f1d554580087085336f3ad1d11edfc0"},
		{"seed", 20, 20, "5bac6778543915f1d4e0fc85034a834bf86d959d97355c82688147380afdad87"},
		{data(100), 4, 5, "f9836f2a2d0013bd9f0df6e64264f86ce2a352c195732f3dfa0ad06f96a2c196"},
	} {
		check(t, fmt.Sprintf("%x %d %d", c.seed, c.a, c.b), mac.Key(c.seed, c.a, c.b), c.want)
	}
}

// All nodes from 0 to 20 have keys of their own, either way round.
func TestAllKeys(t *testing.T) {
	seen := map[string]string{}
	for _, seed := range []string{"", "s", "S", "s\x00", data(300)} {
		for a := range 21 {
			for b := a; b < 21; b++ {
				k := mac.Key(seed, a, b)
				if k != byHand(seed, a, b) || k != mac.Key(seed, b, a) {
					t.Fatalf("%x %d %d", seed, a, b)
				}
				what := fmt.Sprintf("%x %d %d", seed, a, b)
				if other, ok := seen[k]; ok {
					t.Fatal(what, "is as", other)
				}
				seen[k] = what
			}
		}
	}
}

// Of others than from 0 to 20 the key is as of 0, which is then the lesser one.
func TestKeyOutside(t *testing.T) {
	for _, x := range outside {
		for b := range 21 {
			want := byHand("s", 0, b)
			if mac.Key("s", x, b) != want || mac.Key("s", b, x) != want {
				t.Error(x, b)
			}
		}
		for _, y := range outside {
			if mac.Key("s", x, y) != byHand("s", 0, 0) {
				t.Error(x, y)
			}
		}
	}
}

func TestTag(t *testing.T) {
	for _, c := range []struct {
		seed     string
		from, to int
		text     string
		want     string
	}{
		{"s", 1, 3, "x", "66e77953d9cadb7a37d53ea82fd24abf"},
		{"s", 3, 1, "x", "66e77953d9cadb7a37d53ea82fd24abf"},
		{"s", 2, 2, "text", "4b861fd232af2210f12ae5206ca34859"},
		{"", 0, 0, "", "b07bf3fc6aa139c7d01d529c531cf378"},
		{"", 20, 0, "", "4b5a4b82413202f50f33ccf8969b371a"},
		{"seed", 0, 6, data(64), "0e997c889dfb50b1542b06f2f227df77"},
		{"seed", 10, 2, data(1000), "ade4b1a6b5bd77e4ebc54d9f3b13c684"},
		{"seed", 20, 20, "", "e1d360832d3b3dcea4f9b66605c23778"},
	} {
		check(t, fmt.Sprintf("%x %d %d", c.seed, c.from, c.to), mac.Tag(c.seed, c.from, c.to, c.text), c.want)
	}
}

// A tag is layer 1's, with the key of both, made by hand.
func TestAllTags(t *testing.T) {
	for _, seed := range []string{"", "s"} {
		for _, text := range []string{"", "x", data(200)} {
			for a := range 21 {
				for b := a; b < 21; b++ {
					want := blake.Tag(byHand(seed, a, b), text)
					if mac.Tag(seed, a, b, text) != want || mac.Tag(seed, b, a, text) != want {
						t.Fatal(seed, a, b, len(text))
					}
				}
			}
		}
	}
}

func TestTagOutside(t *testing.T) {
	for _, x := range outside {
		for b := range 21 {
			want := blake.Tag(byHand("s", 0, b), "x")
			if mac.Tag("s", x, b, "x") != want || mac.Tag("s", b, x, "x") != want {
				t.Error(x, b)
			}
		}
		for _, y := range outside {
			if mac.Tag("s", x, y, "x") != blake.Tag(byHand("s", 0, 0), "x") {
				t.Error(x, y)
			}
		}
	}
}

func TestNodes(t *testing.T) {
	for n := -30; n <= 30; n++ {
		if mac.Nodes(n) != (n >= 1 && n <= 7) {
			t.Error(n)
		}
	}
	for _, n := range outside {
		if mac.Nodes(n) {
			t.Error(n)
		}
	}
	if mac.Nodes(0) || !mac.Nodes(1) || !mac.Nodes(api.MaxNodes) || mac.Nodes(api.MaxNodes+1) {
		t.Error("edges")
	}
}

// The chapter's example: a signature of four nodes has four tags.
func TestSign(t *testing.T) {
	s := sign(t, "s", 2, 4, "text")
	if s.From != 2 || len(s.Tags) != 4 {
		t.Fatal(s.From, len(s.Tags))
	}
	for to, want := range []string{
		"49cca146946126f0f5baa6ac417f8c94",
		"a926af1df18176a31767f5ced1f0f558",
		"4b861fd232af2210f12ae5206ca34859",
		"e1451fb7d5141a4ef9a44f2f04441343",
	} {
		check(t, fmt.Sprint("tag for ", to), s.Tags[to], want)
	}
	s = sign(t, "", 0, 1, "")
	if s.From != 0 || len(s.Tags) != 1 {
		t.Fatal(s.From, len(s.Tags))
	}
	check(t, "of nothing", s.Tags[0], "b07bf3fc6aa139c7d01d529c531cf378")
}

// The tags of all who sign, for all numbers of nodes.
func TestAllSignatures(t *testing.T) {
	for i, want := range []string{
		"5e62cc63d99a4bbda138d359881cd1af8ee8e0534f4a7ec1fb7e43eaedcd8ab8",
		"dc862ac1ba0028444d8c5d7a1578933f7a9ebe729309ebe6decb5b11aa546927",
		"13ec01598e54f9ce9ba97d22e348d8c7cb92a78d5eaaeed68785a66808e2145e",
		"a165b7420c49ab220f5e8a97dd5e69e92616cbff1f7b0efe6d8a3dfa770824ed",
		"408a36ec6f3ee03f790eaa819fc9d87b5dbf2c48187c387367c019a97b28534a",
		"a28dc13b27ebcf1b054cc574b2796766d80c080f3b3458960eddee38419808ac",
		"2b9b06e91b81c923357dc7057d4cb83e5a35a19b800da32dbb1c48be0e2da17c",
	} {
		n, all := i+1, blake.New("")
		for from := range n {
			s := sign(t, "seed", from, n, "text")
			if s.From != from || len(s.Tags) != n {
				t.Fatal(from, n, s.From, len(s.Tags))
			}
			for _, tag := range s.Tags {
				all.Write(tag)
			}
		}
		check(t, fmt.Sprint("of ", n), all.Sum(), want)
	}
}

func TestSignOfNone(t *testing.T) {
	// The first one that isn't refused ends the test: a signature of as many
	// nodes as follow would take too long.
	refused := func(from, n int) {
		t.Helper()
		if s, e := mac.Sign("s", from, n, "text"); e != api.ErrArg || s.From != 0 || len(s.Tags) != 0 {
			t.Fatal("from", from, "of", n, s.From, len(s.Tags), e)
		}
	}
	for n := -2; n <= 22; n++ {
		for from := -2; from <= 22; from++ {
			if s, e := mac.Sign("s", from, n, "text"); n >= 1 && n <= api.MaxNodes && from >= 0 && from < n {
				if e != api.OK || s.From != from || len(s.Tags) != n {
					t.Error("from", from, "of", n, s.From, len(s.Tags), e)
				}
				continue
			}
			refused(from, n)
		}
	}
	for _, x := range outside {
		refused(x, 4)
		refused(0, x)
		refused(x, x)
	}
}

// P3.2: what is signed holds for each node.
func TestSignedHolds(t *testing.T) {
	for _, seed := range []string{"", "s", data(100)} {
		for _, text := range []string{"", "t", data(100)} {
			for n := 1; n <= api.MaxNodes; n++ {
				for from := range n {
					s := sign(t, seed, from, n, text)
					for to := range n {
						if !mac.Holds(seed, to, n, text, s) {
							t.Error(len(seed), len(text), n, from, to)
						}
					}
				}
			}
		}
	}
}

func TestHoldsOfAnother(t *testing.T) {
	s := sign(t, "s", 2, 4, "text")
	for to := range 4 {
		for _, seed := range []string{"", "t", "S", "ss"} {
			if mac.Holds(seed, to, 4, "text", s) {
				t.Errorf("for %d, of the seed %q", to, seed)
			}
		}
		for _, text := range []string{"", "tex", "texts", "Text"} {
			if mac.Holds("s", to, 4, text, s) {
				t.Errorf("for %d, of the text %q", to, text)
			}
		}
		for _, from := range []int{0, 1, 3} {
			if mac.Holds("s", to, 4, "text", api.Sig{From: from, Tags: s.Tags}) {
				t.Error("for", to, "from", from)
			}
		}
	}
}

// A node that isn't there has no tag, though Key and Tag know it as another.
func TestHoldsForNone(t *testing.T) {
	s := sign(t, "s", 0, 4, "text")
	for _, to := range append([]int{4, 5, 6, 7, 20}, outside...) {
		if mac.Holds("s", to, 4, "text", s) {
			t.Error(to)
		}
	}
}

// made has a tag for each of n nodes, as one would sign who isn't asked
// whether it is there.
func made(from, n int) api.Sig {
	s := api.Sig{From: from}
	for to := range n {
		s.Tags = append(s.Tags, mac.Tag("s", from, to, "text"))
	}
	return s
}

func TestHoldsFromNone(t *testing.T) {
	for n := 1; n <= api.MaxNodes; n++ {
		for _, from := range append([]int{n, n + 1, 20}, outside...) {
			for to := range n {
				if mac.Holds("s", to, n, "text", made(from, n)) {
					t.Error("from", from, "to", to, "of", n)
				}
			}
		}
		for from := range n {
			if !mac.Holds("s", n-1, n, "text", made(from, n)) {
				t.Error("from", from, "of", n, "doesn't hold, though it is there")
			}
		}
	}
}

func TestHoldsOfNoNodes(t *testing.T) {
	for _, n := range append([]int{0, 8, 9, 20}, outside...) {
		for _, tags := range []int{0, 1, 8, 9} {
			if mac.Holds("s", 0, n, "text", made(0, tags)) {
				t.Error(n, tags)
			}
		}
	}
	for n := 8; n <= 21; n++ {
		if mac.Holds("s", 0, n, "text", made(0, n)) {
			t.Error(n)
		}
	}
}

// The tags are as many as the nodes, no more and no less.
func TestHoldsByNumberOfTags(t *testing.T) {
	for n := 1; n <= api.MaxNodes; n++ {
		for tags := range api.MaxNodes + 2 {
			for to := range n {
				if mac.Holds("s", to, n, "text", made(0, tags)) != (tags == n) {
					t.Error("of", n, "with", tags, "to", to)
				}
			}
		}
	}
	if mac.Holds("s", 0, 4, "text", api.Sig{}) {
		t.Error("without tags")
	}
}

// A tag of another length is wrong for all, whosever it is.
func TestHoldsByLengthOfTags(t *testing.T) {
	for of := range 4 {
		right := mac.Tag("s", 1, of, "text")
		whole, _ := blake.Keyed(byHand("s", min(1, of), max(1, of)), "text")
		for _, tag := range []string{"", right[:1], right[:15], right[1:], right + "\x00", whole[:17], whole, strings.Repeat(right, 2)} {
			s := made(1, 4)
			s.Tags[of] = tag
			for to := range 4 {
				if mac.Holds("s", to, 4, "text", s) {
					t.Errorf("to %d, the tag of %d is %x", to, of, tag)
				}
			}
		}
	}
}

// A bit of one tag, turned, is seen by the one node that the tag is for.
func TestHoldsByBits(t *testing.T) {
	for from := range 4 {
		for of := range 4 {
			for bit := range 8 * api.TagSize {
				s := made(from, 4)
				b := []byte(s.Tags[of])
				b[bit/8] ^= 1 << (bit % 8)
				s.Tags[of] = string(b)
				for to := range 4 {
					if mac.Holds("s", to, 4, "text", s) != (to != of) {
						t.Fatal("from", from, "to", to, "the tag of", of, "bit", bit)
					}
				}
			}
		}
	}
}

// Two tags, changed about, hold for neither node, and still for the others.
func TestHoldsByPlaces(t *testing.T) {
	for a := range 4 {
		for b := range a {
			s := made(2, 4)
			s.Tags[a], s.Tags[b] = s.Tags[b], s.Tags[a]
			for to := range 4 {
				if mac.Holds("s", to, 4, "text", s) != (to != a && to != b) {
					t.Error(a, b, to)
				}
			}
		}
	}
}

// What is handed in is left as it is, and what is answered is new each time.
func TestNothingIsShared(t *testing.T) {
	a, b := sign(t, "s", 1, 4, "text"), sign(t, "s", 1, 4, "text")
	room := append(slices.Clone(a.Tags), "spare")
	mac.Holds("s", 2, 4, "text", api.Sig{From: 1, Tags: room[:4]})
	if !slices.Equal(room[:4], a.Tags) || room[4] != "spare" {
		t.Error("Holds changed what it was handed")
	}
	clear(a.Tags)
	if !mac.Holds("s", 3, 4, "text", b) || !mac.Holds("s", 3, 4, "text", sign(t, "s", 1, 4, "text")) {
		t.Error("one signature changed another")
	}
}
