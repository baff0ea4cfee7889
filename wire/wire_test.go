package wire_test

import (
	"encoding/hex"
	"strings"
	"testing"

	"comitia/api"
	"comitia/wire"
)

const maxNumber = 1<<31 - 1

var (
	hashA = strings.Repeat("\xaa", api.HashSize)
	hashB = strings.Repeat("\xbb", api.HashSize)
	tagC  = strings.Repeat("\xcc", api.TagSize)
	tagD  = strings.Repeat("\xdd", api.TagSize)
)

// The bytes of these, by hand, that the tests of whole things are put
// together of.
var (
	hexA = strings.Repeat("aa", api.HashSize)
	hexB = strings.Repeat("bb", api.HashSize)
	hexC = strings.Repeat("cc", api.TagSize)
	hexD = strings.Repeat("dd", api.TagSize)
)

// checkBytes holds bytes against what is written in hexadecimal digits, with
// spaces where it helps the eye.
func checkBytes(t *testing.T, what, got, want string) {
	t.Helper()
	want = strings.Join(strings.Fields(want), "")
	if x := hex.EncodeToString([]byte(got)); x != want {
		t.Errorf("%s:\n%s, not\n%s", what, x, want)
	}
}

func TestNumber(t *testing.T) {
	for _, c := range []struct {
		n    int
		want string
	}{
		{0, "00000000"},
		{1, "00000001"},
		{0x80, "00000080"},
		{0xff, "000000ff"},
		{0x100, "00000100"},
		{0x01020304, "01020304"},
		{api.MaxView, "000f4240"},
		{maxNumber - 1, "7ffffffe"},
		{maxNumber, "7fffffff"},
		{maxNumber + 1, "00000000"},
		{maxNumber + 2, "00000000"},
		{1<<32 - 1, "00000000"},
		{1<<32 + 5, "00000000"},
		{1<<63 - 1, "00000000"},
		{-1, "00000000"},
		{-5, "00000000"},
		{-1 << 31, "00000000"},
		{-1<<32 + 5, "00000000"},
		{-1 << 63, "00000000"},
	} {
		checkBytes(t, "Number", wire.Number(c.n), c.want)
	}
}

func TestText(t *testing.T) {
	checkBytes(t, "empty", wire.Text(""), "00000000")
	checkBytes(t, "a", wire.Text("a"), "00000001 61")
	checkBytes(t, "no text of runes", wire.Text("\x00\xff\x80"), "00000003 00ff80")
	checkBytes(t, "long", wire.Text(strings.Repeat("z", 300)), "0000012c"+strings.Repeat("7a", 300))
}

func TestRequestBytes(t *testing.T) {
	checkBytes(t, "the chapter's", wire.Request(api.Request{Client: 1, Seq: 2, Body: "a"}), "00000001 00000002 00000001 61")
	checkBytes(t, "zero", wire.Request(api.Request{}), "00000000 00000000 00000000")
	checkBytes(t, "greatest Seq", wire.Request(api.Request{Client: 3, Seq: maxNumber}), "00000003 7fffffff 00000000")
	checkBytes(t, "numbers that are none", wire.Request(api.Request{Client: -1, Seq: maxNumber + 1, Body: "x"}), "00000000 00000000 00000001 78")
	checkBytes(t, "Body too long", wire.Request(api.Request{Client: 9, Body: strings.Repeat("b", 41)}), "00000009 00000000 00000029"+strings.Repeat("62", 41))
}

func twoSigs() []api.Sig {
	return []api.Sig{{From: 1, Tags: []string{tagC, tagD}}, {From: 5}}
}

// hexSigs is what twoSigs is as bytes.
var hexSigs = "00000002" + "00000001 00000002" + hexC + hexD + "00000005 00000000"

func TestCertBytes(t *testing.T) {
	checkBytes(t, "no signature", wire.Cert(api.Cert{View: 3, Block: hashA}), "00000003"+hexA+"00000000")
	checkBytes(t, "two", wire.Cert(api.Cert{View: 3, Block: hashA, Sigs: twoSigs()}), "00000003"+hexA+hexSigs)
	checkBytes(t, "zero", wire.Cert(api.Cert{}), "00000000 00000000")
	checkBytes(t, "empty list", wire.Cert(api.Cert{Sigs: []api.Sig{}}), "00000000 00000000")
	checkBytes(t, "what isn't right", wire.Cert(api.Cert{View: -1, Block: "xyz", Sigs: []api.Sig{
		{From: 9, Tags: []string{"u", "", "vw"}}, {From: -9, Tags: []string{}},
	}}), "00000000 78797a 00000002 00000009 00000003 75 7677 00000000 00000000")
}

func oneBlock() api.Block {
	return api.Block{View: 4, Proposer: 2, Justify: api.Cert{View: 3, Block: hashA, Sigs: twoSigs()},
		Batch: []api.Request{{Client: 1, Seq: 2, Body: "a"}, {Client: 0, Seq: 256}}}
}

var (
	hexBatch = "00000002" + "00000001 00000002 00000001 61" + "00000000 00000100 00000000"
	hexBlock = "00000004 00000002" + "00000003" + hexA + hexSigs + hexBatch
)

func TestBlockBytes(t *testing.T) {
	checkBytes(t, "block", wire.Block(oneBlock()), hexBlock)
	checkBytes(t, "zero", wire.Block(api.Block{}), "00000000 00000000 00000000 00000000 00000000")
	checkBytes(t, "what isn't right", wire.Block(api.Block{View: 1 << 40, Proposer: -3, Justify: api.Cert{View: 7, Block: "q"}, Batch: make([]api.Request, 4)}),
		"00000000 00000000 00000007 71 00000000 00000004"+strings.Repeat("00", 48))
}

func TestCoreBytes(t *testing.T) {
	b := oneBlock()
	want := "00000004 00000002 00000003" + hexA + hexBatch
	checkBytes(t, "core", wire.Core(b), want)
	b.Justify.Sigs = nil
	checkBytes(t, "without signatures", wire.Core(b), want)
	b.Justify.Sigs = []api.Sig{{From: 3}}
	checkBytes(t, "with others", wire.Core(b), want)
	checkBytes(t, "zero", wire.Core(api.Block{}), "00000000 00000000 00000000 00000000")
	checkBytes(t, "what isn't right", wire.Core(api.Block{View: -1, Proposer: 8, Justify: api.Cert{View: 9, Block: "q"}, Batch: make([]api.Request, 4)}),
		"00000000 00000008 00000009 71 00000004"+strings.Repeat("00", 48))
}

// What else a core has tells two blocks apart.
func TestCoreTellsApart(t *testing.T) {
	core := wire.Core(oneBlock())
	for what, change := range map[string]func(*api.Block){
		"View":         func(b *api.Block) { b.View++ },
		"Proposer":     func(b *api.Block) { b.Proposer++ },
		"Justify.View": func(b *api.Block) { b.Justify.View-- },
		"Block":        func(b *api.Block) { b.Justify.Block = hashB },
		"Batch":        func(b *api.Block) { b.Batch = b.Batch[:1] },
		"order":        func(b *api.Block) { b.Batch[0], b.Batch[1] = b.Batch[1], b.Batch[0] },
		"Body":         func(b *api.Block) { b.Batch[0].Body = "b" },
	} {
		b := oneBlock()
		change(&b)
		if wire.Core(b) == core {
			t.Error(what)
		}
	}
}

func TestMsgBytes(t *testing.T) {
	checkBytes(t, "zero", wire.Msg(api.Msg{}), strings.Repeat("00000000", 5)+"00 00 00 00 00000000 00000000")
	all := api.Msg{Kind: api.Found, From: 1, To: 20, View: 9, Hash: hashB, Block: oneBlock(),
		Cert: api.Cert{View: 8, Block: hashB, Sigs: twoSigs()}, Sig: api.Sig{From: 6, Tags: []string{tagD}},
		Request: api.Request{Client: 3, Seq: 7, Body: "xy"}, Index: 513, Tag: tagC}
	checkBytes(t, "all", wire.Msg(all), "00000007 00000001 00000014 00000009 00000020"+hexB+
		"01"+hexBlock+"01 00000008"+hexB+hexSigs+"01 00000006 00000001"+hexD+
		"01 00000003 00000007 00000002 7879"+"00000201 00000010"+hexC)
	checkBytes(t, "what isn't right", wire.Msg(api.Msg{Kind: 8, From: -1, To: 21, View: -2, Hash: "h", Sig: api.Sig{From: -1}, Index: -7, Tag: "t"}),
		"00000008 00000000 00000015 00000000 00000001 68 00 00 01 00000000 00000000 00 00000000 00000001 74")
}

// A part is left out just if all of it is zero, lists that are empty too.
func TestMsgPartBytes(t *testing.T) {
	head, tail := strings.Repeat("00000000", 5), "00000000 00000000"
	for _, c := range []struct {
		m    api.Msg
		want string
	}{
		{api.Msg{Block: api.Block{Justify: api.Cert{Sigs: []api.Sig{}}, Batch: []api.Request{}}}, "00 00 00 00"},
		{api.Msg{Cert: api.Cert{Sigs: []api.Sig{}}}, "00 00 00 00"},
		{api.Msg{Sig: api.Sig{Tags: []string{}}}, "00 00 00 00"},
		{api.Msg{Block: api.Block{View: 1}}, "01 00000001 00000000 00000000 00000000 00000000 00 00 00"},
		{api.Msg{Block: api.Block{Proposer: 1}}, "01 00000000 00000001 00000000 00000000 00000000 00 00 00"},
		{api.Msg{Block: api.Block{Justify: api.Cert{View: 1}}}, "01 00000000 00000000 00000001 00000000 00000000 00 00 00"},
		{api.Msg{Block: api.Block{Batch: make([]api.Request, 1)}}, "01 00000000 00000000 00000000 00000000 00000001 00000000 00000000 00000000 00 00 00"},
		{api.Msg{Cert: api.Cert{View: 1}}, "00 01 00000001 00000000 00 00"},
		{api.Msg{Cert: api.Cert{Block: "\x05"}}, "00 01 00000000 05 00000000 00 00"},
		{api.Msg{Cert: api.Cert{Sigs: make([]api.Sig, 1)}}, "00 01 00000000 00000001 00000000 00000000 00 00"},
		{api.Msg{Sig: api.Sig{From: 1}}, "00 00 01 00000001 00000000 00"},
		{api.Msg{Sig: api.Sig{Tags: []string{""}}}, "00 00 01 00000000 00000001 00"},
		{api.Msg{Request: api.Request{Client: 1}}, "00 00 00 01 00000001 00000000 00000000"},
		{api.Msg{Request: api.Request{Seq: 1}}, "00 00 00 01 00000000 00000001 00000000"},
		{api.Msg{Request: api.Request{Body: "b"}}, "00 00 00 01 00000000 00000000 00000001 62"},
	} {
		checkBytes(t, "part", wire.Msg(c.m), head+c.want+tail)
	}
}

// However much is handed in, writing ends.
func TestLongLists(t *testing.T) {
	const many = 300000
	c := api.Cert{Sigs: make([]api.Sig, many)}
	if n := len(wire.Cert(c)); n != 8+8*many {
		t.Error(n)
	}
	b := api.Block{Justify: c, Batch: make([]api.Request, many)}
	if n := len(wire.Block(b)); n != 20+8*many+12*many {
		t.Error(n)
	}
	if n := len(wire.Core(b)); n != 16+12*many {
		t.Error(n)
	}
	if _, e := wire.ReadBlock(wire.Block(b)); e != api.ErrForm {
		t.Error(e)
	}
}
