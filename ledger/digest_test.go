package ledger_test

import (
	"encoding/hex"
	"strings"
	"testing"

	"comitia/api"
	"comitia/ledger"
)

// The digests are another program's: of BLAKE2s of 32 bytes.
func TestDigestsFromElsewhere(t *testing.T) {
	all := list(
		request(1, 1, "a"),
		request(2, 1, ""),
		request(1, 2, "0123456789012345678901234567890123456789"),
		request(-1, 1<<31, "\x00\xff"),
		request(0, 3, strings.Repeat("x", 1000)),
	)
	want := []string{
		"8a125f1e5dd8df7d1eb98111ce00498ae53a20cf997c6015bdc63b1c7aea8ce4",
		"d0ae489f143772b24420f7b47d692890b894fadd1d0b2a707075b14c163ca1c8",
		"d86bece0c7758e354cb3d402fce618c5b7226c38986af7109f18bd76df7264fa",
		"ca0f16a7e782ba0c395133d070e5169216b01b5cab2ac8f4d70375b18b8f465e",
		"88ef874b6a25dbd77663abee7d5d3441bbc4a33b2c33d0bfcb93f8dd5608f8c4",
		"89e90e310574394e538f744a155a9ce283dcdbc8277c62baab1bb00859c170bf",
	}
	l := ledger.New()
	l.Apply(all)
	one := ledger.New()
	for i, x := range want {
		for _, l := range []*ledger.Ledger{l, one} {
			if h, e := l.Digest(i); hex.EncodeToString([]byte(h)) != x || e != api.OK {
				t.Errorf("Digest(%d): %x, %d", i, h, e)
			}
		}
		if i < len(all) {
			one.Apply(all[i : i+1])
		}
	}
}

// Each digest stays what it was when more entries come, one by one or in
// batches; those that aren't there yet are there then.
func TestDigestsStay(t *testing.T) {
	all := many(13)
	of := digests(all)
	for size := 1; size <= 4; size++ {
		l := ledger.New()
		for n := 0; n <= len(all); n += size {
			for i := -1; i <= len(all)+1; i++ {
				checkDigest(t, l, i, of[:n+1])
			}
			l.Apply(all[n:min(n+size, len(all))])
		}
	}
}

// The digests don't hang on how the entries came: in which batches, with what
// between them that was there already.
func TestDigestsHangOnEntriesAlone(t *testing.T) {
	all := many(6)
	l := filled(t, all...)
	for cut := range 7 {
		m := ledger.New()
		m.Apply(all[:cut])
		m.Apply(all[:cut])
		m.Apply(append(many(cut), all[cut:]...))
		for i := range 7 {
			h, e := l.Digest(i)
			if g, f := m.Digest(i); g != h || e != api.OK || f != api.OK {
				t.Errorf("Digest(%d): %x, %x", i, g, h)
			}
		}
	}
}

// Whatever is unlike in one entry, or in their order, makes all digests behind
// it unlike, and none ahead of it.
func TestDigestsTellEntries(t *testing.T) {
	all := many(6)
	for at := range 5 {
		for _, change := range []func(l []api.Request){
			func(l []api.Request) { l[at].Client += 4 },
			func(l []api.Request) { l[at].Seq += 9 },
			func(l []api.Request) { l[at].Body += "x" },
			func(l []api.Request) { l[at].Body = "" },
			func(l []api.Request) { l[at], l[at+1] = l[at+1], l[at] },
		} {
			other := many(6)
			change(other)
			l, m := filled(t, all...), filled(t, other...)
			for i := range 7 {
				h, e := l.Digest(i)
				g, f := m.Digest(i)
				if (h == g) != (i <= at) || e != api.OK || f != api.OK {
					t.Errorf("Digest(%d): %x, %x", i, g, h)
				}
			}
		}
	}
}

// Digests are made as entries come: to ask for one makes nothing.
func TestDigestsAreMadeOnce(t *testing.T) {
	for _, n := range []int{0, 1, 50} {
		l := filled(t, many(n)...)
		for i := range n + 1 {
			if made := testing.AllocsPerRun(20, func() { l.Digest(i) }); made != 0 {
				t.Errorf("Digest(%d) makes something: %v", i, made)
			}
		}
	}
}

// One more entry makes its own digest alone, and what is applied again none.
func TestOneEntryOneDigest(t *testing.T) {
	l := filled(t, many(3000)...)
	more := many(4000)[3000:]
	i := 0
	made := testing.AllocsPerRun(900, func() {
		l.Apply(more[i : i+1])
		i++
	})
	if made > 100 {
		t.Errorf("one more makes so much: %v", made)
	}
	again := testing.AllocsPerRun(900, func() { l.Apply(more[:1]) })
	if again > 1 {
		t.Errorf("one that is there makes so much: %v", again)
	}
}
