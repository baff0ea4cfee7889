package safe_test

import (
	"math"
	"testing"

	"comitia/api"
	"comitia/safe"
)

// The n+1st of the calls that count is the one at which the power goes, be it
// an Append or a Sync.
func TestFuse(t *testing.T) {
	for n := range 8 {
		for syncs := range 1 << 8 {
			l, size := safe.New(), 0
			l.Fuse(n)
			for i := range n {
				if syncs>>i&1 == 1 {
					check(t, l.Sync(), api.OK)
				} else {
					check(t, l.Append("ab"), api.OK)
					size += 6
				}
			}
			if syncs>>n&1 == 1 {
				check(t, l.Sync(), api.ErrLost)
			} else {
				check(t, l.Append("ab"), api.ErrLost)
			}
			if l.Len() != size {
				t.Error(l.Len(), size)
			}
			checkLost(t, l)
		}
	}
}

// What isn't counted: calls that answer ErrArg, Records, Cut and Len, however
// often.
func TestFuseCountsNoOthers(t *testing.T) {
	others := func(l *safe.Log) {
		for range 5 {
			check(t, l.Append(""), api.ErrArg)
			check(t, l.Append(mixed(4001)), api.ErrArg)
			check(t, l.Cut(), api.OK)
			if _, e := l.Records(); e != api.OK {
				t.Error(e)
			}
			l.Len()
		}
	}
	for n := range 5 {
		l := safe.New()
		l.Fuse(n)
		others(l)
		for i := range n {
			if i%2 == 0 {
				check(t, l.Append("a"), api.OK)
			} else {
				check(t, l.Sync(), api.OK)
			}
			others(l)
		}
		check(t, l.Append("b"), api.ErrLost)
		checkLost(t, l)
	}
}

// The call at which the power goes has done nothing: no record is appended, no
// byte made safe.
func TestFuseAtTheCall(t *testing.T) {
	for keep := range 24 {
		for _, last := range []func(*safe.Log) api.Errno{
			(*safe.Log).Sync,
			func(l *safe.Log) api.Errno { return l.Append("lost") },
			func(l *safe.Log) api.Errno { return l.Append(mixed(4000)) },
		} {
			l := grown([]string{"a"}, []string{"bc", "d"})
			l.Fuse(0)
			check(t, last(l), api.ErrLost)
			checkLost(t, l)
			l.Crash(keep)
			size := 5 + keptOf(keep, 11)
			checkLog(t, l, size, wholeIn([]string{"a", "bc", "d"}, size)...)
		}
	}
}

// Below 0 there is none, and one that there was is taken away.
func TestFuseOfNone(t *testing.T) {
	for _, none := range []int{-1, -2, -1000, math.MinInt} {
		for before := -1; before < 4; before++ {
			l := safe.New()
			l.Fuse(before)
			l.Fuse(none)
			for range 10 {
				check(t, l.Append("a"), api.OK)
				check(t, l.Sync(), api.OK)
			}
			checkLog(t, l, 50, "a", "a", "a", "a", "a", "a", "a", "a", "a", "a")
		}
	}
}

// Without a fuse the power doesn't go.
func TestNoFuse(t *testing.T) {
	l := safe.New()
	for range 1000 {
		check(t, l.Append("a"), api.OK)
		check(t, l.Sync(), api.OK)
	}
	if l.Len() != 5000 {
		t.Error(l.Len())
	}
}

// A fuse counts from then on, and another one is instead of it.
func TestFuseAnew(t *testing.T) {
	for before := range 5 {
		for calls := range before + 1 {
			for then := range 5 {
				l := safe.New()
				l.Append("ahead")
				l.Fuse(before)
				for range calls {
					check(t, l.Append("a"), api.OK)
				}
				l.Fuse(then)
				for range then {
					check(t, l.Append("b"), api.OK)
				}
				check(t, l.Append("c"), api.ErrLost)
				if l.Len() != 9+5*(calls+then) {
					t.Error(before, calls, then, l.Len())
				}
			}
		}
	}
}

// A long one, and the longest.
func TestFuseLong(t *testing.T) {
	l := safe.New()
	l.Fuse(1000)
	for range 500 {
		check(t, l.Append("a"), api.OK)
		check(t, l.Sync(), api.OK)
	}
	check(t, l.Sync(), api.ErrLost)
	l.Crash(0)
	for _, n := range []int{math.MaxInt, math.MaxInt - 1, math.MaxInt32, 1 << 31, 1 << 32, 1<<32 + 1, 1 << 40} {
		l.Fuse(n)
		for range 100 {
			check(t, l.Append("a"), api.OK)
			check(t, l.Sync(), api.OK)
		}
	}
}

// Where the power is gone a fuse is nothing: it neither brings the power back
// nor takes it again.
func TestFuseWhereThePowerIsGone(t *testing.T) {
	for _, n := range []int{math.MinInt, -1, 0, 1, 2, 100, math.MaxInt} {
		for keep := range 17 {
			l := grown([]string{"a"}, []string{"bc", "d"})
			l.Fuse(0)
			check(t, l.Sync(), api.ErrLost)
			l.Fuse(n)
			checkLost(t, l)
			l.Fuse(n)
			l.Crash(keep)
			size := 5 + keptOf(keep, 11)
			checkLog(t, l, size, wholeIn([]string{"a", "bc", "d"}, size)...)
			for range 200 {
				check(t, l.Append("e"), api.OK)
				check(t, l.Sync(), api.OK)
			}
		}
	}
}

// A fuse, and a crash, and a fuse.
func TestFuseBehindACrash(t *testing.T) {
	l := safe.New()
	for n := range 6 {
		l.Fuse(n)
		for range n {
			check(t, l.Append("a"), api.OK)
		}
		check(t, l.Append("b"), api.ErrLost)
		checkLost(t, l)
		l.Crash(0)
		checkLog(t, l, 0)
	}
}

// What is no record: ErrLost where the power is gone, ErrArg where it isn't
// yet, also where the next call is the one at which it goes.
func TestFuseAndNoRecord(t *testing.T) {
	l := safe.New()
	l.Fuse(0)
	for _, b := range []string{"", mixed(4001), ""} {
		check(t, l.Append(b), api.ErrArg)
		checkLog(t, l, 0)
	}
	check(t, l.Append("a"), api.ErrLost)
	check(t, l.Append(""), api.ErrLost)
	check(t, l.Append(mixed(4001)), api.ErrLost)
	l.Crash(0)
	check(t, l.Append(""), api.ErrArg)
	check(t, l.Append(mixed(4001)), api.ErrArg)
}
