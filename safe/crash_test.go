package safe_test

import (
	"math"
	"testing"

	"comitia/api"
	"comitia/safe"
)

// The chapter's example: nothing but a piece, and no records.
func TestExample(t *testing.T) {
	l := safe.New()
	check(t, l.Append("a record"), api.OK)
	l.Crash(3)
	checkLog(t, l, 3)
}

// keptOf is keep modulo one more than so many: 0 of 0, all of -1, and so on.
func keptOf(keep, waits int) int {
	if keep < 0 {
		return waits - (-1-keep)%(waits+1)
	}
	return keep % (waits + 1)
}

// wholeIn are the first ones of the records that lie in so many bytes.
func wholeIn(l []string, size int) []string {
	for many := range l {
		if len(laid(l[:many+1]...)) > size {
			return l[:many]
		}
	}
	return l
}

// Whatever is safe, whatever waits, however much is kept: 0, all, one more, a
// negative number.
func TestCrash(t *testing.T) {
	l := []string{"a", "bcd", "\x00\x00", "efghi"}
	for synced := range len(l) + 1 {
		for many := synced; many <= len(l); many++ {
			stays := len(laid(l[:synced]...))
			waits := len(laid(l[synced:many]...))
			for keep := -3 * (waits + 2); keep <= 3*(waits+2); keep++ {
				for _, lost := range []bool{false, true} {
					g := grown(l[:synced], l[synced:many])
					if lost {
						g.Fuse(0)
						check(t, g.Sync(), api.ErrLost)
					}
					g.Crash(keep)
					size := stays + keptOf(keep, waits)
					checkLog(t, g, size, wholeIn(l[:many], size)...)
				}
			}
		}
	}
}

// grown is a log of records, the first ones synced.
func grown(synced, waits []string) *safe.Log {
	l := safe.New()
	for _, b := range synced {
		l.Append(b)
	}
	l.Sync()
	for _, b := range waits {
		l.Append(b)
	}
	return l
}

// Where nothing waits nothing is changed, whatever is to be kept.
func TestCrashWhereNothingWaits(t *testing.T) {
	for _, keep := range []int{math.MinInt, -5, -1, 0, 1, 2, 5, 1000, math.MaxInt} {
		l := safe.New()
		l.Crash(keep)
		checkLog(t, l, 0)
		l.Append("a")
		l.Sync()
		l.Crash(keep)
		checkLog(t, l, 5, "a")
	}
}

// The numbers furthest from 0.
func TestCrashFarOff(t *testing.T) {
	for _, x := range []struct{ keep, rest11 int }{
		// 2 to the 63rd is 8 more than a multiple of 12, and 2 to the 31st too.
		{math.MaxInt64, 7}, {math.MinInt64, 4}, {math.MaxInt64 - 7, 0}, {math.MaxInt64 - 8, 11}, {math.MinInt64 + 8, 0}, {math.MinInt64 + 7, 11},
		{math.MaxInt32, 7}, {math.MinInt32, 4}, {1 << 31, 8}, {1 << 32, 4},
	} {
		l := grown([]string{"sa"}, []string{"a", "bc"})
		l.Crash(x.keep)
		size := 6 + x.rest11
		checkLog(t, l, size, wholeIn([]string{"sa", "a", "bc"}, size)...)
	}
}

// What is kept is safe: the next crash keeps it too.
func TestCrashTwice(t *testing.T) {
	l := []string{"a", "bcd", "ef"}
	for first := range 19 {
		for then := range 19 {
			g := grown(nil, l)
			g.Crash(first)
			g.Crash(then)
			checkLog(t, g, first, wholeIn(l, first)...)
			// With something behind it that waits.
			g.Append("z")
			g.Crash(0)
			checkLog(t, g, first, wholeIn(l, first)...)
		}
	}
}

// The first ones of the bytes are kept, and what is appended then comes right
// behind them.
func TestCrashKeepsTheFirst(t *testing.T) {
	for _, x := range []struct {
		keep int
		want []string
	}{
		// 00 00 00 03 a b c 00 00 00 01 d, and behind what is kept 00 00 00 01 q.
		{0, []string{"q"}},
		{1, nil}, // 00 00 00 00
		{2, nil}, // 00 00 00 00
		{3, nil}, // 00 00 00 00
		{4, []string{"\x00\x00\x00"}},
		{5, []string{"a\x00\x00"}},
		{6, []string{"ab\x00"}},
		{7, []string{"abc", "q"}},
		{8, []string{"abc"}},
		{9, []string{"abc"}},
		{10, []string{"abc"}},
		{11, []string{"abc", "\x00"}},
		{12, []string{"abc", "d", "q"}},
		{13, []string{"q"}},
		{-1, []string{"abc", "d", "q"}},
	} {
		l := grown(nil, []string{"abc", "d"})
		l.Crash(x.keep)
		check(t, l.Append("q"), api.OK)
		checkLog(t, l, keptOf(x.keep, 12)+5, x.want...)
	}
}

// What is gone doesn't come back with what is appended.
func TestGoneIsGone(t *testing.T) {
	l := grown([]string{"a"}, []string{"bcdefghij", "kl"})
	l.Crash(0)
	checkLog(t, l, 5, "a")
	check(t, l.Append("m"), api.OK)
	checkLog(t, l, 10, "a", "m")
	l.Crash(-1)
	checkLog(t, l, 10, "a", "m")
}

// A crash takes the fuse away, and brings the power back.
func TestCrashTakesTheFuse(t *testing.T) {
	for fuse := range 4 {
		for calls := range 6 {
			l := safe.New()
			l.Fuse(fuse)
			for range calls {
				l.Append("a")
			}
			l.Crash(0)
			for range 10 {
				check(t, l.Append("b"), api.OK)
				check(t, l.Sync(), api.OK)
			}
			check(t, l.Cut(), api.OK)
			if l.Len() != 50 {
				t.Error(fuse, calls, l.Len())
			}
		}
	}
}
