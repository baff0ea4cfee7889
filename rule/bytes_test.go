package rule_test

import (
	"math"
	"strings"
	"testing"

	"comitia/api"
	"comitia/rule"
	"comitia/wire"
)

// four are a number's bytes, made by hand.
func four(n uint32) string {
	return string([]byte{byte(n >> 24), byte(n >> 16), byte(n >> 8), byte(n)})
}

func TestBytes(t *testing.T) {
	for _, x := range []struct {
		s    rule.State
		want string
	}{
		{rule.State{}, "\x00\x00\x00\x00\x00\x00\x00\x00"},
		{rule.State{Voted: 3, Locked: 2}, "\x00\x00\x00\x03\x00\x00\x00\x02"},
		{rule.State{Voted: 0x01020304, Locked: 0x05060708}, "\x01\x02\x03\x04\x05\x06\x07\x08"},
		{rule.State{Voted: api.MaxView, Locked: api.MaxView}, "\x00\x0f\x42\x40\x00\x0f\x42\x40"},
		{rule.State{Voted: api.MaxView + 1, Locked: 1}, "\x00\x0f\x42\x41\x00\x00\x00\x01"},
		{rule.State{Voted: 1, Locked: 1<<31 - 1}, "\x00\x00\x00\x01\x7f\xff\xff\xff"},
		{rule.State{Voted: -1, Locked: 5}, "\x00\x00\x00\x00\x00\x00\x00\x05"},
		{rule.State{Voted: 5, Locked: -1}, "\x00\x00\x00\x05\x00\x00\x00\x00"},
		{rule.State{Voted: 1 << 31, Locked: 1<<32 + 7}, "\x00\x00\x00\x00\x00\x00\x00\x00"},
		{rule.State{Voted: math.MinInt, Locked: math.MaxInt}, "\x00\x00\x00\x00\x00\x00\x00\x00"},
	} {
		if got := rule.Bytes(x.s); got != x.want || got != wire.Number(x.s.Voted)+wire.Number(x.s.Locked) {
			t.Errorf("%v: %x, not %x", x.s, got, x.want)
		}
	}
}

func checkRead(t *testing.T, b string, want rule.State) {
	t.Helper()
	if s, e := rule.Read(b); e != api.OK || s != want {
		t.Errorf("%x: %v %d, not %v", b, s, e, want)
	}
}

func checkUnread(t *testing.T, b string) {
	t.Helper()
	if s, e := rule.Read(b); e != api.ErrForm || s != (rule.State{}) {
		t.Errorf("%x: %v %d", b, s, e)
	}
}

// States of views that there are, are read as they were; others aren't.
func TestRead(t *testing.T) {
	there := []uint32{0, 1, 2, 255, 256, 65535, 65536, api.MaxView - 1, api.MaxView}
	not := []uint32{api.MaxView + 1, api.MaxView + 256, 1 << 20, 1 << 24, 1<<31 - 1, 1 << 31, 1<<31 + 1, 1<<31 + api.MaxView, 1<<32 - 1}
	for _, voted := range there {
		for _, locked := range there {
			s := rule.State{Voted: int(voted), Locked: int(locked)}
			checkRead(t, four(voted)+four(locked), s)
			checkRead(t, rule.Bytes(s), s)
		}
		for _, wrong := range not {
			checkUnread(t, four(voted)+four(wrong))
			checkUnread(t, four(wrong)+four(voted))
		}
	}
	for _, a := range not {
		for _, b := range not {
			checkUnread(t, four(a)+four(b))
		}
	}
}

// Too few bytes, too many, none.
func TestReadOfOtherLengths(t *testing.T) {
	for _, s := range []rule.State{{}, {Voted: 3, Locked: 2}, {Voted: api.MaxView, Locked: api.MaxView}} {
		b := rule.Bytes(s)
		for many := range 8 {
			checkUnread(t, b[:many])
			checkUnread(t, b[8-many:])
			if many > 0 {
				checkUnread(t, b+b[:many])
				checkUnread(t, b+strings.Repeat("\x00", many))
			}
		}
		checkUnread(t, b+b)
		checkUnread(t, b+"x")
		checkUnread(t, "x"+b)
		checkUnread(t, strings.Repeat(b, 100))
	}
	checkUnread(t, "")
	checkUnread(t, "short")
}

// Each of the bytes counts: with another one there it is another state's, or
// none's.
func TestReadOfEachByte(t *testing.T) {
	was := rule.State{Voted: 0x0a0b0c, Locked: 0x030201}
	b := []byte(rule.Bytes(was))
	for i := range b {
		kept := b[i]
		for x := range 256 {
			b[i] = byte(x)
			voted := int(b[0])*1<<24 + int(b[1])*1<<16 + int(b[2])*1<<8 + int(b[3])
			locked := int(b[4])*1<<24 + int(b[5])*1<<16 + int(b[6])*1<<8 + int(b[7])
			if voted <= 1000000 && locked <= 1000000 {
				checkRead(t, string(b), rule.State{Voted: voted, Locked: locked})
			} else {
				checkUnread(t, string(b))
			}
		}
		b[i] = kept
	}
}

// States that there are none of have bytes, but aren't read as they were.
func TestBytesOfNoViews(t *testing.T) {
	for _, wrong := range []int{api.MaxView + 1, 1<<31 - 1} {
		checkUnread(t, rule.Bytes(rule.State{Voted: wrong}))
		checkUnread(t, rule.Bytes(rule.State{Locked: wrong}))
		checkUnread(t, rule.Bytes(rule.State{Voted: wrong, Locked: wrong}))
	}
	for _, wrong := range []int{-1, math.MinInt, 1 << 31, math.MaxInt} {
		checkRead(t, rule.Bytes(rule.State{Voted: wrong, Locked: 4}), rule.State{Locked: 4})
		checkRead(t, rule.Bytes(rule.State{Voted: 4, Locked: wrong}), rule.State{Voted: 4})
	}
}
