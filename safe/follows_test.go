package safe_test

import (
	"math/rand/v2"
	"slices"
	"testing"

	"comitia/api"
	"comitia/safe"
)

// A keeper appends to a log, and knows what was appended and how much of it was
// synced. Behind a crash it looks at what is left, cuts, and goes on with it.
type keeper struct {
	t        *testing.T
	l        *safe.Log
	appended []string
	synced   int
	lost     bool
	crashes  int
	torn     int
	fewer    int
}

func (k *keeper) append(b string) {
	switch e := k.l.Append(b); {
	case e == api.OK:
		k.appended = append(k.appended, b)
	case e == api.ErrLost:
		k.lost = true
	case e != api.ErrArg || len(b) != 0 && len(b) <= 4000:
		k.t.Fatalf("%d", e)
	}
}

func (k *keeper) sync() {
	switch e := k.l.Sync(); e {
	case api.OK:
		k.synced = len(k.appended)
	case api.ErrLost:
		k.lost = true
	default:
		k.t.Fatalf("%d", e)
	}
}

func (k *keeper) crash(keep int) {
	k.t.Helper()
	k.l.Crash(keep)
	k.lost = false
	r, e := k.l.Records()
	if e != api.OK || len(r) < k.synced || len(r) > len(k.appended) || !slices.Equal(r, k.appended[:len(r)]) {
		k.t.Fatalf("%q %d: of %q, %d synced", r, e, k.appended, k.synced)
	}
	size := k.l.Len()
	check(k.t, k.l.Cut(), api.OK)
	again, e := k.l.Records()
	if e != api.OK || !slices.Equal(again, r) || k.l.Len() != len(laid(r...)) {
		k.t.Fatalf("%q %d behind a cut, not %q", again, e, r)
	}
	k.crashes++
	if k.l.Len() < size {
		k.torn++
	}
	if len(r) < len(k.appended) {
		k.fewer++
	}
	// Whatever is left is safe by now.
	k.appended, k.synced = r, len(r)
}

// Whatever is called, wherever the power goes, however much is kept.
func TestBeginningOfWhatWasAppended(t *testing.T) {
	r := rand.New(rand.NewPCG(10, 9))
	crashes, torn, fewer := 0, 0, 0
	for range 2000 {
		k := &keeper{t: t, l: safe.New()}
		for range 100 {
			switch r.IntN(12) {
			case 0, 1, 2, 3:
				k.append(mixed(r.IntN(20)))
			case 4:
				k.append(mixed([]int{0, 1, 3999, 4000, 4001}[r.IntN(5)]))
			case 5, 6:
				k.sync()
			case 7:
				k.l.Fuse(r.IntN(8) - 1)
			case 8:
				k.l.Records()
				k.l.Len()
			case 9:
				k.l.Cut()
			case 10:
				k.crash(r.IntN(200) - 100)
			default:
				if k.lost {
					k.crash(r.IntN(1 << 30))
				}
			}
		}
		k.crash(r.IntN(1 << 20))
		crashes, torn, fewer = crashes+k.crashes, torn+k.torn, fewer+k.fewer
	}
	if crashes < 5000 || torn < 3000 || fewer < torn {
		t.Errorf("%d crashes, %d with a piece, %d with fewer records: that is no trial", crashes, torn, fewer)
	}
}

// Each place where the power can go, each sync, each number of bytes kept.
func TestEachCrash(t *testing.T) {
	l := []string{"a", "\x00\x00\x00\x01", "bcd", "\x00"}
	for syncs := range 1 << len(l) {
		for fuse := -1; fuse < 2*len(l)+1; fuse++ {
			for keep := range len(laid(l...)) + 2 {
				k := &keeper{t: t, l: safe.New()}
				k.l.Fuse(fuse)
				for i, b := range l {
					k.append(b)
					if syncs>>i&1 == 1 {
						k.sync()
					}
				}
				k.crash(keep)
				// Once more, on what is left.
				for _, b := range l {
					k.append(b)
				}
				k.crash(keep)
				k.crash(keep)
			}
		}
	}
}

// Also without a cut: what the first crash has left stays behind all crashes,
// while nothing is appended.
func TestCrashesWithoutACut(t *testing.T) {
	l := []string{"a", "bcd", "\x00\x00\x00\x01", "ef"}
	for synced := range len(l) + 1 {
		for keep := range len(laid(l...)) + 1 {
			g := grown(l[:synced], l[synced:])
			g.Crash(keep)
			was, e := g.Records()
			if e != api.OK || len(was) < synced || !slices.Equal(was, l[:len(was)]) {
				t.Fatalf("%q %d", was, e)
			}
			size := g.Len()
			for again := range 5 {
				g.Fuse(0)
				check(t, g.Sync(), api.ErrLost)
				g.Crash(again * 3)
				checkLog(t, g, size, was...)
				check(t, g.Sync(), api.OK)
			}
		}
	}
}
