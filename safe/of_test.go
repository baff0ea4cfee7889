package safe_test

import (
	"testing"

	"comitia/api"
	"comitia/safe"
)

// noLengths are lengths that can't be.
var noLengths = []uint32{0, 4001, 4002, 4095, 4096, 1 << 16, 1<<16 + 1, 1<<16 + 4000, 1 << 24, 1<<24 + 1, 1<<24 + 4000, 1<<31 - 1, 1 << 31, 1<<31 + 1, 1<<31 + 4000, 1<<32 - 4000, 1<<32 - 4, 1<<32 - 1}

// Bytes that end in no piece.
func TestOf(t *testing.T) {
	checkLog(t, safe.Of(""), 0)
	checkLog(t, safe.Of("\x00\x00\x00\x01x"), 5, "x")
	checkLog(t, safe.Of("\x00\x00\x00\x02xy\x00\x00\x00\x01z"), 11, "xy", "z")
	checkLog(t, safe.Of(laid("\x00\x00\x00\x01", "b", mixed(4000), "c")), 8+5+4004+5, "\x00\x00\x00\x01", "b", mixed(4000), "c")
}

// They are safe: whatever a crash keeps, they stay, and what comes waits
// behind them.
func TestOfIsSafe(t *testing.T) {
	for _, b := range []string{"", "\x00", "\x00\x00\x00\x05ab", laid("a"), laid("a", "bc"), laid("a") + "\x00\x00\x00\x00", laid("a", "bc") + "q"} {
		for keep := -12; keep <= 12; keep++ {
			l := safe.Of(b)
			l.Crash(keep)
			if l.Len() != len(b) {
				t.Errorf("%q, keep %d: %d", b, keep, l.Len())
			}
			check(t, l.Append("new"), api.OK)
			l.Crash(0)
			if l.Len() != len(b) {
				t.Errorf("%q, keep %d: %d", b, keep, l.Len())
			}
		}
	}
	l := safe.Of(laid("a", "bc"))
	check(t, l.Append("d"), api.OK)
	checkLog(t, l, 16, "a", "bc", "d")
	check(t, l.Sync(), api.OK)
	l.Crash(0)
	checkLog(t, l, 16, "a", "bc", "d")
}

// Fewer than four bytes are no length.
func TestOfFewerThanFour(t *testing.T) {
	for _, ahead := range [][]string{nil, {"a"}, {"a", "bc"}, {mixed(4000)}} {
		for _, piece := range []string{"", "\x00", "\x01", "\xff", "x", "\x00\x00", "\x00\x01", "xy", "\x00\x00\x00", "\x00\x00\x01", "xyz"} {
			b := laid(ahead...) + piece
			checkLog(t, safe.Of(b), len(b), ahead...)
		}
	}
}

// Fewer bytes than the length says, so many, more.
func TestOfTooFew(t *testing.T) {
	for _, ahead := range [][]string{nil, {"a"}, {"a", "bc"}} {
		for _, many := range []int{1, 2, 3, 4, 5, 100, 255, 256, 257, 3999, 4000} {
			r := mixed(many)
			for _, less := range []int{1, 2, many / 2, many - 1, many} {
				if less >= 1 && less <= many {
					b := laid(ahead...) + laid(r)[:4+many-less]
					checkLog(t, safe.Of(b), len(b), ahead...)
				}
			}
			want := append(append([]string{}, ahead...), r)
			b := laid(want...)
			checkLog(t, safe.Of(b), len(b), want...)
			for _, more := range []string{"\x00", "\x00\x00\x00", "\x00\x00\x00\x00", "\x00\x00\x00\x01", "\x00\x00\x00\x02x", "zz"} {
				checkLog(t, safe.Of(b+more), len(b+more), want...)
			}
			checkLog(t, safe.Of(b+laid("more")), len(b)+8, append(want, "more")...)
		}
	}
}

// Behind a length that can't be there is nothing more, however much there is.
func TestOfNoLength(t *testing.T) {
	long := mixed(70000)
	for _, ahead := range [][]string{nil, {"a"}, {"a", "bc"}, {mixed(4000)}} {
		for _, n := range noLengths {
			for _, behind := range []string{"", "x", "xyz", "\x00\x00\x00\x01x", long, laid("b", "c"), mixed(4001), mixed(4096) + laid("b")} {
				b := laid(ahead...) + four(n) + behind
				checkLog(t, safe.Of(b), len(b), ahead...)
			}
		}
	}
}

// Each length, of as many bytes and more.
func TestOfEachLength(t *testing.T) {
	long := mixed(70000)
	for n := range uint32(70000) {
		if n > 4200 && n%97 != 0 && n%4096 > 2 {
			continue
		}
		b := four(n) + long[:n] + "\x00"
		if n >= 1 && n <= 4000 {
			checkLog(t, safe.Of(b), len(b), long[:n])
		} else {
			checkLog(t, safe.Of(b), len(b))
		}
	}
}

// Each of the length's bytes counts.
func TestOfEachByteOfTheLength(t *testing.T) {
	long := mixed(4000)
	for i := range 4 {
		for x := range 256 {
			for _, last := range []byte{0, 1, 7} {
				head := []byte{0, 0, 0, last}
				head[i] = byte(x)
				n := int(head[0])*1<<24 + int(head[1])*1<<16 + int(head[2])*1<<8 + int(head[3])
				b := string(head) + long
				if n >= 1 && n <= 4000 {
					r, e := safe.Of(b).Records()
					if e != api.OK || len(r) == 0 || r[0] != long[:n] {
						t.Errorf("%x: %q %d", head, r, e)
					}
				} else {
					checkLog(t, safe.Of(b), len(b))
				}
			}
		}
	}
}

// The power is there, and there is no fuse, whatever the bytes are.
func TestOfHasNoFuse(t *testing.T) {
	l := safe.Of("\x00\x00\x00\x00")
	for range 100 {
		check(t, l.Sync(), api.OK)
		check(t, l.Append("a"), api.OK)
	}
	checkLog(t, l, 504)
	l.Fuse(0)
	check(t, l.Sync(), api.ErrLost)
	checkLost(t, l)
}
