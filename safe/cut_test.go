package safe_test

import (
	"testing"

	"comitia/api"
	"comitia/safe"
)

// Where there is no piece nothing goes, and what waits waits.
func TestCutOfNoPiece(t *testing.T) {
	l := grown([]string{"a"}, []string{"bc", "d"})
	check(t, l.Cut(), api.OK)
	checkLog(t, l, 16, "a", "bc", "d")
	l.Crash(6)
	checkLog(t, l, 11, "a", "bc")
	check(t, l.Cut(), api.OK)
	checkLog(t, l, 11, "a", "bc")
}

// A cut makes nothing safe.
func TestCutSyncsNothing(t *testing.T) {
	for keep := range 11 {
		l := grown([]string{"a"}, []string{"bc", "d"})
		check(t, l.Cut(), api.OK)
		l.Crash(keep)
		checkLog(t, l, 5+keep, wholeIn([]string{"a", "bc", "d"}, 5+keep)...)
	}
}

// A piece that is safe.
func TestCutOfASafePiece(t *testing.T) {
	for _, ahead := range [][]string{nil, {"a"}, {"a", "bc"}, {mixed(4000)}} {
		size := len(laid(ahead...))
		for _, piece := range []string{"\x00", "\x00\x00\x00", "\x00\x00\x00\x00", "\x00\x00\x00\x05abcd", "\x00\x00\x0f\xa1" + mixed(5000), "\xff\xff\xff\xff", "\x00\x00\x00\x00" + laid("b", "c")} {
			l := safe.Of(laid(ahead...) + piece)
			checkLog(t, l, size+len(piece), ahead...)
			check(t, l.Cut(), api.OK)
			checkLog(t, l, size, ahead...)
			// What is left is safe, and what comes is behind it.
			check(t, l.Append("new"), api.OK)
			checkLog(t, l, size+7, append(append([]string{}, ahead...), "new")...)
			l.Crash(0)
			checkLog(t, l, size, ahead...)
		}
	}
}

// A piece of a record that a crash has torn, wherever.
func TestCutBehindACrash(t *testing.T) {
	all := []string{"a", "bcd", "ef"}
	for keep := range len(laid(all...)) + 1 {
		l := grown(nil, all)
		l.Crash(keep)
		left := wholeIn(all, keep)
		check(t, l.Cut(), api.OK)
		checkLog(t, l, len(laid(left...)), left...)
		l.Crash(-1)
		checkLog(t, l, len(laid(left...)), left...)
		for _, b := range []string{"g", "hij"} {
			check(t, l.Append(b), api.OK)
		}
		now := append(append([]string{}, left...), "g", "hij")
		checkLog(t, l, len(laid(now...)), now...)
		check(t, l.Sync(), api.OK)
		l.Crash(0)
		checkLog(t, l, len(laid(now...)), now...)
	}
}

// A piece that lies in both: a safe one, and records that wait behind it. All
// of it goes, and what comes then waits.
func TestCutOfAPieceInBoth(t *testing.T) {
	for _, piece := range []string{
		"\x00\x00\x00\x09y",              // two too few
		"\x00",                           // 00 00 00 00
		"\x00\x00\x00",                   // 00 00 00 00
		"\x00\x00\x00\x00",               // a length that can't be
		"\xff\xff\xff\xff",               // likewise
		"\x00\x00\x0f\xa1" + mixed(3999), // likewise, with bytes enough
	} {
		for _, ahead := range [][]string{nil, {"a"}, {"a", "bc"}} {
			size := len(laid(ahead...))
			l := safe.Of(laid(ahead...) + piece)
			check(t, l.Append("ab"), api.OK)
			checkLog(t, l, size+len(piece)+6, ahead...)
			check(t, l.Cut(), api.OK)
			checkLog(t, l, size, ahead...)
			l.Crash(5)
			checkLog(t, l, size, ahead...)
			check(t, l.Append("new"), api.OK)
			l.Crash(6)
			checkLog(t, l, size+6, ahead...)
			check(t, l.Cut(), api.OK)
			check(t, l.Append("new"), api.OK)
			check(t, l.Sync(), api.OK)
			l.Crash(0)
			checkLog(t, l, size+7, append(append([]string{}, ahead...), "new")...)
		}
	}
}

// waitingPiece is a log of 5 safe bytes, the first ones of a record of 8, and
// of two records that wait: what is short of the record is taken of them, and
// of the second one four bytes are left that are a piece.
func waitingPiece(t *testing.T) *safe.Log {
	l := safe.Of("\x00\x00\x00\x08y")
	check(t, l.Append("ab"), api.OK)
	check(t, l.Append("c"), api.OK)
	checkLog(t, l, 16, "y\x00\x00\x00\x02ab\x00")
	return l
}

// A piece that waits: what waits ahead of it waits on.
func TestCutOfAWaitingPiece(t *testing.T) {
	for keep := -8; keep <= 8; keep++ {
		l := waitingPiece(t)
		check(t, l.Cut(), api.OK)
		checkLog(t, l, 12, "y\x00\x00\x00\x02ab\x00")
		l.Crash(keep)
		kept := keptOf(keep, 7)
		if kept == 7 {
			checkLog(t, l, 12, "y\x00\x00\x00\x02ab\x00")
		} else {
			checkLog(t, l, 5+kept)
		}
	}
	l := waitingPiece(t)
	check(t, l.Cut(), api.OK)
	check(t, l.Append("d"), api.OK)
	checkLog(t, l, 17, "y\x00\x00\x00\x02ab\x00", "d")
	check(t, l.Sync(), api.OK)
	l.Crash(0)
	checkLog(t, l, 17, "y\x00\x00\x00\x02ab\x00", "d")
}

// A second cut finds nothing more.
func TestCutTwice(t *testing.T) {
	for range 3 {
		l := waitingPiece(t)
		for range 3 {
			check(t, l.Cut(), api.OK)
			checkLog(t, l, 12, "y\x00\x00\x00\x02ab\x00")
		}
		l.Crash(0)
		for range 3 {
			check(t, l.Cut(), api.OK)
			checkLog(t, l, 0)
		}
	}
}

// Where the power is gone nothing is cut.
func TestCutWhereThePowerIsGone(t *testing.T) {
	l := waitingPiece(t)
	l.Fuse(0)
	check(t, l.Sync(), api.ErrLost)
	check(t, l.Cut(), api.ErrLost)
	if l.Len() != 16 {
		t.Error(l.Len())
	}
	l.Crash(11)
	checkLog(t, l, 16, "y\x00\x00\x00\x02ab\x00")
}

// A cut leaves the fuse as it is.
func TestCutAndFuse(t *testing.T) {
	l := waitingPiece(t)
	l.Fuse(1)
	check(t, l.Cut(), api.OK)
	check(t, l.Sync(), api.OK)
	check(t, l.Cut(), api.OK)
	check(t, l.Sync(), api.ErrLost)
	l.Crash(0)
	checkLog(t, l, 12, "y\x00\x00\x00\x02ab\x00")
}
