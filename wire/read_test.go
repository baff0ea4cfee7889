package wire_test

import (
	"fmt"
	"reflect"
	"strings"
	"testing"

	"comitia/api"
	"comitia/wire"
)

// What is held against the functions for each kind of thing.
type kind[T any] struct {
	name  string
	write func(T) string
	read  func(string) (T, api.Errno)
}

var (
	requests = kind[api.Request]{"request", wire.Request, wire.ReadRequest}
	certs    = kind[api.Cert]{"certificate", wire.Cert, wire.ReadCert}
	blocks   = kind[api.Block]{"block", wire.Block, wire.ReadBlock}
	msgs     = kind[api.Msg]{"message", wire.Msg, wire.ReadMsg}
)

// same tells that x is read as it was written.
func (k kind[T]) same(t *testing.T, what string, x T) {
	t.Helper()
	y, e := k.read(k.write(x))
	if e != api.OK || !reflect.DeepEqual(x, y) {
		t.Errorf("%s %s: %d\n%v, not\n%v", k.name, what, e, y, x)
	}
}

// none tells that b is read as nothing.
func (k kind[T]) none(t *testing.T, what, b string) {
	t.Helper()
	var zero T
	if x, e := k.read(b); e != api.ErrForm || !reflect.DeepEqual(x, zero) {
		t.Errorf("%s %s: %d %v", k.name, what, e, x)
	}
}

// changed tells for each change of what is right whether it is still right.
func (k kind[T]) changed(t *testing.T, right bool, whole func() T, changes map[string]func(*T)) {
	t.Helper()
	for what, change := range changes {
		x := whole()
		change(&x)
		if right {
			k.same(t, what, x)
		} else {
			k.none(t, what, k.write(x))
		}
	}
}

// ends tells that nothing is read of bytes that end too early, or too late.
func (k kind[T]) ends(t *testing.T, x T) {
	t.Helper()
	b := k.write(x)
	for n := range b {
		k.none(t, fmt.Sprint("cut at ", n), b[:n])
	}
	for _, more := range []string{"\x00", "\x01", "x", "\x00\x00\x00\x00", b} {
		k.none(t, "with more behind", b+more)
		k.none(t, "with more ahead", more+b)
	}
}

// others tells that whatever one byte is changed to, what is read, if anything
// is, is right and has just these bytes.
func (k kind[T]) others(t *testing.T, x T, right func(T) bool) {
	t.Helper()
	b := []byte(k.write(x))
	for i := range b {
		was := b[i]
		for _, v := range []byte{0, 1, 2, 3, 4, 6, 7, 8, 20, 21, 40, 41, 0x7f, 0x80, 0xff, was - 1, was + 1} {
			b[i] = v
			y, e := k.read(string(b))
			if e != api.OK {
				k.none(t, "changed", string(b))
			} else if !right(y) || k.write(y) != string(b) {
				t.Fatalf("%s: byte %d as %d: %v", k.name, i, v, y)
			}
		}
		b[i] = was
	}
}

// What is right, by the chapter's words.

func rightRequest(r api.Request) bool {
	return r.Client >= 0 && r.Client < 4 && r.Seq >= 1 && len(r.Body) <= 40
}

func rightSig(s api.Sig) bool {
	for _, t := range s.Tags {
		if len(t) != 16 {
			return false
		}
	}
	return s.From >= 0 && s.From < 7 && len(s.Tags) <= 7
}

func rightCert(c api.Cert) bool {
	last := -1
	for _, s := range c.Sigs {
		if !rightSig(s) || s.From <= last {
			return false
		}
		last = s.From
	}
	return c.View >= 0 && c.View <= 1000000 && len(c.Block) == 32 && len(c.Sigs) <= 7
}

func rightBlock(b api.Block) bool {
	for _, r := range b.Batch {
		if !rightRequest(r) {
			return false
		}
	}
	return b.View >= 1 && b.View <= 1000000 && b.Proposer >= 0 && b.Proposer < 7 &&
		rightCert(b.Justify) && b.Justify.View < b.View && len(b.Batch) <= 3
}

func isZero(x any) bool { return reflect.ValueOf(x).IsZero() }

func rightMsg(m api.Msg) bool {
	return m.Kind >= 1 && m.Kind <= 7 && m.From >= 0 && m.From <= 20 && m.To >= 0 && m.To <= 20 &&
		m.View >= 0 && m.View <= 1000000 && (len(m.Hash) == 0 || len(m.Hash) == 32) &&
		m.Index >= 0 && (len(m.Tag) == 0 || len(m.Tag) == 16) &&
		(isZero(m.Block) || rightBlock(m.Block)) && (isZero(m.Cert) || rightCert(m.Cert)) &&
		(isZero(m.Sig) || rightSig(m.Sig)) && (isZero(m.Request) || rightRequest(m.Request))
}

// The things that are changed.

func request() api.Request { return api.Request{Client: 1, Seq: 2, Body: "a"} }

func cert() api.Cert { return api.Cert{View: 3, Block: hashA, Sigs: twoSigs()} }

func msg() api.Msg {
	return api.Msg{Kind: api.Voted, From: 1, To: 2, View: 3, Hash: hashB, Block: oneBlock(), Cert: cert(),
		Sig: api.Sig{From: 1, Tags: []string{tagC, tagD}}, Request: request(), Index: 5, Tag: tagD}
}

// tags are n tags, each another one.
func tags(n int) []string {
	var l []string
	for i := range n {
		l = append(l, strings.Repeat(string(rune('a'+i)), api.TagSize))
	}
	return l
}

// sigs are n signatures, each of another node and with so many tags.
func sigs(n, each int) []api.Sig {
	var l []api.Sig
	for i := range n {
		l = append(l, api.Sig{From: i, Tags: tags(each)})
	}
	return l
}

func batch(n int) []api.Request {
	var l []api.Request
	for i := range n {
		l = append(l, api.Request{Client: i, Seq: i + 1, Body: strings.Repeat("b", api.MaxBody-i)})
	}
	return l
}

// fullCert has as much in it as can be.
func fullCert() api.Cert {
	return api.Cert{View: api.MaxView - 1, Block: hashB, Sigs: sigs(api.MaxNodes, api.MaxNodes)}
}

func fullBlock() api.Block {
	return api.Block{View: api.MaxView, Proposer: api.MaxNodes - 1, Justify: fullCert(), Batch: batch(api.MaxBatch)}
}

func TestRequestRead(t *testing.T) {
	if x, e := wire.ReadRequest("\x00\x00\x00\x01\x00\x00\x00\x02\x00\x00\x00\x01a"); e != api.OK || x != request() {
		t.Error(x, e)
	}
	requests.changed(t, true, request, map[string]func(*api.Request){
		"as it is":    func(r *api.Request) {},
		"Client 0":    func(r *api.Request) { r.Client = 0 },
		"last Client": func(r *api.Request) { r.Client = api.MaxClients - 1 },
		"Seq 1":       func(r *api.Request) { r.Seq = 1 },
		"last Seq":    func(r *api.Request) { r.Seq = maxNumber },
		"no Body":     func(r *api.Request) { r.Body = "" },
		"full Body":   func(r *api.Request) { r.Body = strings.Repeat("\xff", api.MaxBody) },
		"noughts":     func(r *api.Request) { r.Body = "\x00\x00" },
	})
	requests.changed(t, false, request, map[string]func(*api.Request){
		"Client 4":  func(r *api.Request) { r.Client = api.MaxClients },
		"Seq 0":     func(r *api.Request) { r.Seq = 0 },
		"Seq -1":    func(r *api.Request) { r.Seq = -1 },
		"long Body": func(r *api.Request) { r.Body = strings.Repeat("b", api.MaxBody+1) },
		"zero":      func(r *api.Request) { *r = api.Request{} },
	})
}

func TestCertRead(t *testing.T) {
	certs.changed(t, true, cert, map[string]func(*api.Cert){
		"as it is":      func(c *api.Cert) {},
		"View 0":        func(c *api.Cert) { c.View = 0 },
		"View 1":        func(c *api.Cert) { c.View = 1 },
		"last View":     func(c *api.Cert) { c.View = api.MaxView },
		"no signatures": func(c *api.Cert) { c.Sigs = nil },
		"noughts":       func(c *api.Cert) { *c = api.Cert{Block: strings.Repeat("\x00", api.HashSize)} },
		"all nodes":     func(c *api.Cert) { c.Sigs = sigs(api.MaxNodes, api.MaxNodes) },
		"no tags":       func(c *api.Cert) { c.Sigs = sigs(api.MaxNodes, 0) },
		"unlike many tags": func(c *api.Cert) {
			c.Sigs = []api.Sig{{From: 0, Tags: tags(7)}, {From: 3}, {From: 6, Tags: tags(1)}}
		},
		"last node": func(c *api.Cert) { c.Sigs = []api.Sig{{From: api.MaxNodes - 1, Tags: tags(4)}} },
	})
	certs.changed(t, false, cert, map[string]func(*api.Cert){
		"zero":              func(c *api.Cert) { *c = api.Cert{} },
		"View behind":       func(c *api.Cert) { c.View = api.MaxView + 1 },
		"greatest View":     func(c *api.Cert) { c.View = maxNumber },
		"no digest":         func(c *api.Cert) { c.Block = "" },
		"short digest":      func(c *api.Cert) { c.Block = hashA[1:] },
		"long digest":       func(c *api.Cert) { c.Block += "x" },
		"two of one node":   func(c *api.Cert) { c.Sigs[0].From = 5 },
		"falling nodes":     func(c *api.Cert) { c.Sigs[0].From = 6 },
		"falling at last":   func(c *api.Cert) { c.Sigs = append(sigs(3, 1), api.Sig{From: 1}) },
		"node 7":            func(c *api.Cert) { c.Sigs[1].From = api.MaxNodes },
		"short tag":         func(c *api.Cert) { c.Sigs[0].Tags[0] = tagC[1:] },
		"long tag":          func(c *api.Cert) { c.Sigs[0].Tags[1] += "x" },
		"no bytes of a tag": func(c *api.Cert) { c.Sigs[0].Tags[0] = "" },
		"eight tags":        func(c *api.Cert) { c.Sigs[1].Tags = tags(api.MaxNodes + 1) },
		"eight signatures":  func(c *api.Cert) { c.Sigs = sigs(api.MaxNodes+1, 1) },
	})
}

func TestBlockRead(t *testing.T) {
	blocks.changed(t, true, oneBlock, map[string]func(*api.Block){
		"as it is":          func(b *api.Block) {},
		"just behind":       func(b *api.Block) { b.Justify.View = b.View - 1 },
		"View 1":            func(b *api.Block) { b.View, b.Justify.View = 1, 0 },
		"last View":         func(b *api.Block) { b.View, b.Justify.View = api.MaxView, api.MaxView-1 },
		"far behind":        func(b *api.Block) { b.View, b.Justify.View = api.MaxView, 0 },
		"Proposer 0":        func(b *api.Block) { b.Proposer = 0 },
		"last Proposer":     func(b *api.Block) { b.Proposer = api.MaxNodes - 1 },
		"no signatures":     func(b *api.Block) { b.Justify.Sigs = nil },
		"no requests":       func(b *api.Block) { b.Batch = nil },
		"full batch":        func(b *api.Block) { b.Batch = batch(api.MaxBatch) },
		"one request twice": func(b *api.Block) { b.Batch[1] = b.Batch[0] },
		"as much as can be": func(b *api.Block) { *b = fullBlock() },
	})
	blocks.changed(t, false, oneBlock, map[string]func(*api.Block){
		"zero":                 func(b *api.Block) { *b = api.Block{} },
		"View 0":               func(b *api.Block) { b.View, b.Justify.View = 0, 0 },
		"View behind":          func(b *api.Block) { b.View = api.MaxView + 1 },
		"Proposer 7":           func(b *api.Block) { b.Proposer = api.MaxNodes },
		"certificate's View":   func(b *api.Block) { b.Justify.View = b.View },
		"certificate's behind": func(b *api.Block) { b.Justify.View = b.View + 1 },
		"certificate's last":   func(b *api.Block) { b.View, b.Justify.View = api.MaxView, api.MaxView },
		"certificate's digest": func(b *api.Block) { b.Justify.Block = "" },
		"zero certificate":     func(b *api.Block) { b.Justify = api.Cert{} },
		"signatures' order":    func(b *api.Block) { b.Justify.Sigs[1].From = 0 },
		"four requests":        func(b *api.Block) { b.Batch = batch(api.MaxBatch + 1) },
		"Client 4":             func(b *api.Block) { b.Batch[1].Client = api.MaxClients },
		"Seq 0":                func(b *api.Block) { b.Batch[0].Seq = 0 },
		"long Body":            func(b *api.Block) { b.Batch[1].Body = strings.Repeat("b", api.MaxBody+1) },
	})
}

// A message of each kind, with what it has.
func TestMsgKinds(t *testing.T) {
	for what, m := range map[string]api.Msg{
		"Propose": {Kind: api.Propose, From: 2, To: 0, Block: oneBlock(), Tag: tagC},
		"Voted":   {Kind: api.Voted, From: 1, To: 3, View: 4, Hash: hashA, Sig: api.Sig{From: 1, Tags: tags(4)}},
		"NewView": {Kind: api.NewView, From: 3, To: 3, View: 9, Cert: cert(), Tag: tagD},
		"Ask":     {Kind: api.Ask, From: 10, To: 1, Request: request()},
		"Answer":  {Kind: api.Answer, From: 1, To: 13, Request: request(), Index: 7, Hash: hashB, Tag: tagC},
		"Fetch":   {Kind: api.Fetch, From: 0, To: 6, View: 12, Hash: hashA},
		"Found":   {Kind: api.Found, From: 6, To: 0, Block: fullBlock()},
	} {
		msgs.same(t, what, m)
		msgs.ends(t, m)
	}
}

func TestMsgRead(t *testing.T) {
	right := map[string]func(*api.Msg){
		"as it is":   func(m *api.Msg) {},
		"ends 0":     func(m *api.Msg) { m.From, m.To = 0, 0 },
		"ends 20":    func(m *api.Msg) { m.From, m.To = 20, 20 },
		"View 0":     func(m *api.Msg) { m.View = 0 },
		"last View":  func(m *api.Msg) { m.View = api.MaxView },
		"no hash":    func(m *api.Msg) { m.Hash = "" },
		"no tag":     func(m *api.Msg) { m.Tag = "" },
		"Index 0":    func(m *api.Msg) { m.Index = 0 },
		"last Index": func(m *api.Msg) { m.Index = maxNumber },
		"full parts": func(m *api.Msg) { m.Block, m.Cert, m.Sig.Tags = fullBlock(), fullCert(), tags(api.MaxNodes) },
		"no tags":    func(m *api.Msg) { m.Sig.Tags = nil },
		"sig from 0": func(m *api.Msg) { m.Sig.From = 0 },
	}
	for k := api.Propose; k <= api.Found; k++ {
		right[fmt.Sprint("Kind ", k)] = func(m *api.Msg) { m.Kind = k }
	}
	msgs.changed(t, true, msg, right)
	msgs.changed(t, false, msg, map[string]func(*api.Msg){
		"zero":            func(m *api.Msg) { *m = api.Msg{} },
		"Kind 0":          func(m *api.Msg) { m.Kind = 0 },
		"Kind 8":          func(m *api.Msg) { m.Kind = api.Found + 1 },
		"From 21":         func(m *api.Msg) { m.From = 21 },
		"To 21":           func(m *api.Msg) { m.To = 21 },
		"View behind":     func(m *api.Msg) { m.View = api.MaxView + 1 },
		"short hash":      func(m *api.Msg) { m.Hash = hashA[1:] },
		"long hash":       func(m *api.Msg) { m.Hash = hashA + "x" },
		"one byte's hash": func(m *api.Msg) { m.Hash = "h" },
		"hash as a tag":   func(m *api.Msg) { m.Hash = tagC },
		"short tag":       func(m *api.Msg) { m.Tag = tagC[1:] },
		"long tag":        func(m *api.Msg) { m.Tag = tagC + "x" },
		"one byte's tag":  func(m *api.Msg) { m.Tag = "t" },
		"tag as a hash":   func(m *api.Msg) { m.Tag = hashA },
		"block":           func(m *api.Msg) { m.Block.View = 3 },
		"block's View":    func(m *api.Msg) { m.Block.View, m.Block.Justify.View = 0, 0 },
		"block's nothing": func(m *api.Msg) { m.Block = api.Block{Proposer: 1} },
		"certificate":     func(m *api.Msg) { m.Cert.Block = "" },
		"cert's order":    func(m *api.Msg) { m.Cert.Sigs[1].From = 1 },
		"signature":       func(m *api.Msg) { m.Sig.From = api.MaxNodes },
		"signature's tag": func(m *api.Msg) { m.Sig.Tags[0] = "t" },
		"eight tags":      func(m *api.Msg) { m.Sig.Tags = tags(api.MaxNodes + 1) },
		"request":         func(m *api.Msg) { m.Request.Seq = 0 },
		"request's Body":  func(m *api.Msg) { m.Request.Body = strings.Repeat("b", api.MaxBody+1) },
	})
}

// Each choice of parts that are there and parts that are zero.
func TestMsgParts(t *testing.T) {
	for there := range 16 {
		m := msg()
		if there&1 == 0 {
			m.Block = api.Block{}
		}
		if there&2 == 0 {
			m.Cert = api.Cert{}
		}
		if there&4 == 0 {
			m.Sig = api.Sig{}
		}
		if there&8 == 0 {
			m.Request = api.Request{}
		}
		msgs.same(t, fmt.Sprint("parts ", there), m)
		msgs.ends(t, m)
		msgs.others(t, m, rightMsg)
	}
}

// The marks of the parts, which stand behind one another where all are zero.
func TestMarks(t *testing.T) {
	head, tail := wire.Number(1)+strings.Repeat(wire.Number(0), 4), wire.Number(0)+wire.Text("")
	msgs.same(t, "no parts", api.Msg{Kind: 1})
	const marks = "\x00\x00\x00\x00"
	for part := range 4 {
		ahead, behind := head+marks[:part], marks[part+1:]+tail
		if _, e := wire.ReadMsg(ahead + "\x00" + behind); e != api.OK {
			t.Error(part, e)
		}
		for mark := range 256 {
			if mark > 0 {
				msgs.none(t, fmt.Sprint("mark ", mark), ahead+string([]byte{byte(mark)})+behind)
			}
		}
		right := []string{wire.Block(oneBlock()), wire.Cert(cert()), wire.Number(2) + wire.Number(0), wire.Request(request())}[part]
		zero := []string{wire.Block(api.Block{}), wire.Cert(api.Cert{}), wire.Number(0) + wire.Number(0), wire.Request(api.Request{})}[part]
		if _, e := wire.ReadMsg(ahead + "\x01" + right + behind); e != api.OK {
			t.Error(part, e)
		}
		msgs.none(t, "right, as not there", ahead+"\x00"+right+behind)
		msgs.none(t, "right, with another mark", ahead+"\x02"+right+behind)
		msgs.none(t, "right, with the greatest mark", ahead+"\xff"+right+behind)
		msgs.none(t, "zero, as there", ahead+"\x01"+zero+behind)
	}
}

// A signature of the node 0 without tags is right, but in a message it is the
// one that isn't there.
func TestZeroSig(t *testing.T) {
	certs.same(t, "of a zero signature", api.Cert{Block: hashA, Sigs: []api.Sig{{}}})
	m := api.Msg{Kind: api.Voted, Sig: api.Sig{Tags: []string{}}}
	x, e := wire.ReadMsg(wire.Msg(m))
	if e != api.OK || x.Sig.From != 0 || len(x.Sig.Tags) != 0 {
		t.Error(x, e)
	}
}

func TestEnds(t *testing.T) {
	requests.ends(t, request())
	requests.ends(t, api.Request{Seq: 1})
	certs.ends(t, cert())
	certs.ends(t, fullCert())
	blocks.ends(t, oneBlock())
	blocks.ends(t, fullBlock())
	msgs.ends(t, msg())
	msgs.ends(t, api.Msg{Kind: 1})
}

func TestOneByteChanged(t *testing.T) {
	requests.others(t, request(), rightRequest)
	certs.others(t, cert(), rightCert)
	certs.others(t, fullCert(), rightCert)
	blocks.others(t, oneBlock(), rightBlock)
	blocks.others(t, fullBlock(), rightBlock)
}

// Lengths that are greater than what is there, up to those that no number has.
func TestLengths(t *testing.T) {
	for _, n := range []string{"\x7f\xff\xff\xff", "\x80\x00\x00\x00", "\xff\xff\xff\xff", "\x80\x00\x00\x01", "\x00\x00\x00\x29", "\x01\x00\x00\x00"} {
		requests.none(t, "Body's", wire.Number(1)+wire.Number(2)+n+"a")
		requests.none(t, "Body's, of one", wire.Number(1)+wire.Number(2)+n)
		certs.none(t, "signatures'", wire.Number(3)+hashA+n)
		certs.none(t, "tags'", wire.Number(3)+hashA+wire.Number(1)+wire.Number(0)+n+tagC)
		blocks.none(t, "requests'", wire.Number(4)+wire.Number(0)+wire.Cert(cert())+n+wire.Request(request()))
		msgs.none(t, "hash's", wire.Number(1)+strings.Repeat(wire.Number(0), 3)+n+hashA+"\x00\x00\x00\x00"+wire.Number(0)+wire.Number(0))
		msgs.none(t, "tag's", wire.Number(1)+strings.Repeat(wire.Number(0), 4)+"\x00\x00\x00\x00"+wire.Number(0)+n+tagC)
	}
	requests.none(t, "Body's, one more", wire.Number(1)+wire.Number(2)+wire.Number(2)+"a")
	certs.none(t, "signatures', one more", wire.Number(3)+hashA+wire.Number(2)+wire.Number(0)+wire.Number(0))
	certs.none(t, "tags', one more", wire.Number(3)+hashA+wire.Number(1)+wire.Number(0)+wire.Number(2)+tagC)
	blocks.none(t, "requests', one more", wire.Number(4)+wire.Number(0)+wire.Cert(cert())+wire.Number(2)+wire.Request(request()))
}

// A number's bytes with the highest bit are no number's, nor are they cut down
// to one.
func TestHighBit(t *testing.T) {
	for _, high := range []string{"\x80\x00\x00\x00", "\x80\x00\x00\x01", "\xff\xff\xff\xff"} {
		requests.none(t, "Client", high+wire.Number(1)+wire.Text(""))
		requests.none(t, "Seq", wire.Number(1)+high+wire.Text(""))
		certs.none(t, "View", high+hashA+wire.Number(0))
		certs.none(t, "From", wire.Number(1)+hashA+wire.Number(1)+high+wire.Number(0))
		blocks.none(t, "View", high+wire.Block(oneBlock())[4:])
		blocks.none(t, "Proposer", wire.Number(4)+high+wire.Block(oneBlock())[8:])
		b := wire.Msg(msg())
		for at := 0; at < 16; at += 4 {
			msgs.none(t, fmt.Sprint("at ", at), b[:at]+high+b[at+4:])
		}
		msgs.none(t, "Index", b[:len(b)-24]+high+b[len(b)-20:])
	}
}

// What is handed in stays as it is, its spare room too.
func TestHandedIn(t *testing.T) {
	spare := func() api.Msg {
		m := msg()
		m.Cert.Sigs = append(m.Cert.Sigs, api.Sig{From: 9, Tags: []string{"spare"}})[:2]
		m.Block.Batch = append(m.Block.Batch, api.Request{Body: "spare"})[:2]
		m.Sig.Tags = append(m.Sig.Tags, "spare")[:2]
		return m
	}
	m := spare()
	b := wire.Msg(m)
	wire.Block(m.Block)
	wire.Core(m.Block)
	wire.Cert(m.Cert)
	if !reflect.DeepEqual(m, spare()) || m.Cert.Sigs[:3][2].From != 9 ||
		m.Block.Batch[:3][2].Body != "spare" || m.Sig.Tags[:3][2] != "spare" {
		t.Error(m)
	}
	m.Sig.Tags[0], m.Block.Batch[0].Body, m.Cert.Sigs[0].From = "", "", 0
	if x, e := wire.ReadMsg(b); e != api.OK || !reflect.DeepEqual(x, msg()) {
		t.Error("kept", x, e)
	}
}

// What is answered hangs on no other answer, nor its lists on one another.
func TestNewMemory(t *testing.T) {
	b := wire.Msg(msg())
	x, _ := wire.ReadMsg(b)
	x.Sig.Tags[0] = ""
	x.Cert.Sigs[0] = api.Sig{}
	x.Cert.Sigs = append(x.Cert.Sigs, api.Sig{From: 6})
	x.Block.Justify.Sigs[0].Tags = append(x.Block.Justify.Sigs[0].Tags, "more")
	x.Block.Batch[0] = api.Request{}
	x.Block.Batch = append(x.Block.Batch, api.Request{})
	want := msg()
	if !reflect.DeepEqual(x.Cert.Sigs[1], want.Cert.Sigs[1]) || !reflect.DeepEqual(x.Block.Justify.Sigs[1], want.Block.Justify.Sigs[1]) {
		t.Error("lists of one answer", x)
	}
	if y, e := wire.ReadMsg(b); e != api.OK || !reflect.DeepEqual(y, want) {
		t.Error("another answer", y, e)
	}
}

func FuzzRead(f *testing.F) {
	for _, b := range []string{"", wire.Request(request()), wire.Cert(cert()), wire.Block(oneBlock()), wire.Msg(msg()), wire.Msg(api.Msg{Kind: 1})} {
		f.Add(b)
	}
	f.Fuzz(func(t *testing.T, b string) {
		just(t, b, requests, rightRequest)
		just(t, b, certs, rightCert)
		just(t, b, blocks, rightBlock)
		just(t, b, msgs, rightMsg)
	})
}

// just tells that b is read as what is right and has just these bytes, or as
// nothing.
func just[T any](t *testing.T, b string, k kind[T], right func(T) bool) {
	x, e := k.read(b)
	if e != api.OK {
		k.none(t, "any", b)
	} else if !right(x) || k.write(x) != b {
		t.Errorf("%s: %v", k.name, x)
	}
}
