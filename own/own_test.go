package own_test

import (
	"reflect"
	"testing"

	"comitia/api"
	"comitia/own"
)

// full is a block that has something in each field, and lists with spare room.
func full() api.Block {
	tags := append(make([]string, 0, 5), "t", "u")
	sigs := append(make([]api.Sig, 0, 5), api.Sig{From: 1, Tags: tags}, api.Sig{From: 2}, api.Sig{From: 3, Tags: []string{"v"}})
	batch := append(make([]api.Request, 0, 5), api.Request{Client: 1, Seq: 2, Body: "a"}, api.Request{Client: 3, Seq: 4, Body: "b"})
	return api.Block{View: 6, Proposer: 2, Justify: api.Cert{View: 5, Block: "digest", Sigs: sigs}, Batch: batch}
}

// spoil writes over a block's lists, spare room and all.
func spoil(b api.Block) {
	spoilCert(b.Justify)
	clear(b.Batch[:cap(b.Batch)])
}

func spoilCert(c api.Cert) {
	for _, s := range c.Sigs {
		clear(s.Tags[:cap(s.Tags)])
	}
	clear(c.Sigs[:cap(c.Sigs)])
}

func same(t *testing.T, got, want any) {
	t.Helper()
	if !reflect.DeepEqual(got, want) {
		t.Errorf("%v, not %v", got, want)
	}
}

func TestBlock(t *testing.T) {
	b := full()
	copied := own.Block(b)
	same(t, copied, full())
	same(t, b, full())
	spoil(b)
	same(t, copied, full())
	b = full()
	spoil(own.Block(b))
	same(t, b, full())
}

func TestCert(t *testing.T) {
	c := full().Justify
	copied := own.Cert(c)
	same(t, copied, full().Justify)
	same(t, c, full().Justify)
	spoilCert(c)
	same(t, copied, full().Justify)
	c = full().Justify
	spoilCert(own.Cert(c))
	same(t, c, full().Justify)
}

func TestSig(t *testing.T) {
	s := full().Justify.Sigs[0]
	copied := own.Sig(s)
	same(t, copied, full().Justify.Sigs[0])
	same(t, s, full().Justify.Sigs[0])
	clear(s.Tags[:cap(s.Tags)])
	same(t, copied, full().Justify.Sigs[0])
	s = full().Justify.Sigs[0]
	copied = own.Sig(s)
	clear(copied.Tags[:cap(copied.Tags)])
	same(t, s, full().Justify.Sigs[0])
	copied = own.Sig(s)
	copied.Tags = append(copied.Tags, "spoilt")
	same(t, s.Tags[:3][2], "")
}

// The spare room of what is handed in is left, too.
func TestSpareRoom(t *testing.T) {
	b := full()
	copied := own.Block(b)
	copied.Batch = append(copied.Batch, api.Request{Client: 9})
	copied.Justify.Sigs = append(copied.Justify.Sigs, api.Sig{From: 9})
	copied.Justify.Sigs[0].Tags = append(copied.Justify.Sigs[0].Tags, "spoilt")
	same(t, b.Batch[:3][2], api.Request{})
	same(t, b.Justify.Sigs[:4][3], api.Sig{})
	same(t, b.Justify.Sigs[0].Tags[:3][2], "")
}

// What has no lists has none behind it.
func TestZero(t *testing.T) {
	same(t, own.Block(api.Block{}), api.Block{})
	same(t, own.Cert(api.Cert{}), api.Cert{})
	same(t, own.Sig(api.Sig{}), api.Sig{})
}
