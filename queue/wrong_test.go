package queue_test

import (
	"testing"

	"comitia/api"
	"comitia/wire"
)

// xBytes are the bytes of some message of a kind.
func xBytes(kind int) string {
	return wire.Msg(full(kind, 12))
}

// wrongs are bytes of no message, by what is wrong with them.
func wrongs() map[string]string {
	l := map[string]string{
		"no bytes": "", "one byte": "\x00", "a letter": "x", "the kind alone": "\x00\x00\x00\x02",
		"a request's": wire.Request(api.Request{Client: 1, Seq: 2, Body: "a"}),
		"a block's":   wire.Block(full(1, 5).Block), "a certificate's": wire.Cert(full(1, 5).Cert),
		"two messages'":    wire.Msg(msg(api.Ask, 1)) + wire.Msg(msg(api.Ask, 2)),
		"a text's":         wire.Text(wire.Msg(msg(api.Voted, 1))),
		"kind 0":           wire.Msg(msg(0, 1)),
		"kind 8":           wire.Msg(msg(8, 1)),
		"kind 256 and 2":   wire.Msg(msg(258, 1)),
		"kind 2^16 and 4":  wire.Msg(msg(1<<16+4, 1)),
		"kind -1":          wire.Msg(msg(-1, 1)),
		"the kind 0, full": wire.Msg(full(0, 1)),
	}
	for _, kind := range kinds {
		for what, m := range spoiled(kind) {
			l[what+" in "+string(rune('0'+kind))] = wire.Msg(m)
		}
	}
	return l
}

// spoiled are messages that aren't right.
func spoiled(kind int) map[string]api.Msg {
	l := map[string]api.Msg{}
	for what, spoil := range map[string]func(m *api.Msg){
		"From 21":             func(m *api.Msg) { m.From = 21 },
		"To 21":               func(m *api.Msg) { m.To = 21 },
		"a View above all":    func(m *api.Msg) { m.View = api.MaxView + 1 },
		"a hash of 31":        func(m *api.Msg) { m.Hash = m.Hash[1:] },
		"a hash of 33":        func(m *api.Msg) { m.Hash += "x" },
		"a tag of 15":         func(m *api.Msg) { m.Tag = m.Tag[1:] },
		"a block's View 0":    func(m *api.Msg) { m.Block.View = 0 },
		"four requests":       func(m *api.Msg) { m.Block.Batch = append(m.Block.Batch, m.Request) },
		"Client 4":            func(m *api.Msg) { m.Request.Client = api.MaxClients },
		"Seq 0":               func(m *api.Msg) { m.Request.Seq = 0 },
		"a tag of the sig's":  func(m *api.Msg) { m.Sig.Tags[0] += "x" },
		"a signature of 7":    func(m *api.Msg) { m.Sig.From = 7 },
		"a certificate's sig": func(m *api.Msg) { m.Cert.Sigs[0].From = 7 },
		"Froms that fall":     func(m *api.Msg) { m.Block.Justify.Sigs[0].From = 6 },
	} {
		m := full(kind, 9)
		spoil(&m)
		l[what] = m
	}
	return l
}

// refused tells the test if what is no message's bytes does anything, whether
// there is room or not.
func refused(t *testing.T, wrong map[string]string) {
	t.Helper()
	for _, lengths := range [][2]int{{0, 0}, {2, 3}, {room, 0}, {0, room}, {room, room}} {
		x := newReader(t)
		x.fill(lengths[0], lengths[1])
		if x.Len() == 2*room {
			x.pushed(api.ErrBusy, msg(api.Ask, 1))
		}
		dropped := x.Dropped()
		for what, b := range wrong {
			if e := x.Push(b); e != api.ErrForm {
				t.Errorf("%s: %d", what, e)
			}
			x.is()
		}
		if x.Dropped() != dropped {
			t.Error(lengths, x.Dropped())
		}
		x.drain()
	}
}

func TestPushWrong(t *testing.T) {
	refused(t, wrongs())
}

// A message's bytes but the last ones, and with more of them.
func TestPushMoreOrLess(t *testing.T) {
	for _, kind := range kinds {
		for _, m := range []api.Msg{msg(kind, 3), full(kind, 11)} {
			b := wire.Msg(m)
			wrong := map[string]string{}
			for n := range b {
				if m.Tag == "" || n%7 == 0 || n > len(b)-3 {
					wrong["cut at the end, "+string(rune(n))] = b[:n]
					wrong["cut ahead, "+string(rune(n))] = b[n+1:]
				}
			}
			for _, more := range []string{"\x00", "\x01", "x", "\x00\x00\x00\x00"} {
				wrong["more, "+more] = b + more
				wrong["more ahead, "+more] = more + b
			}
			refused(t, wrong)
		}
	}
}

// With whatever byte as another one: it is a message of the lane of its kind,
// or nothing's bytes.
func TestPushOtherBytes(t *testing.T) {
	taken, refused := 0, 0
	for _, kind := range kinds {
		b := []byte(xBytes(kind))
		for i := range b {
			was := b[i]
			for _, v := range []byte{0, 1, 2, 4, 5, 7, 8, 0x7f, 0x80, 0xff, was - 1, was + 1} {
				b[i] = v
				x := newReader(t)
				if x.push(string(b)) == api.OK {
					taken++
				} else {
					refused++
				}
				x.drain()
			}
			b[i] = was
		}
	}
	if taken < 20000 || refused < 5000 {
		t.Error("that is no trial", taken, refused)
	}
}
