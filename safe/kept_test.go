package safe_test

import (
	"fmt"
	"slices"
	"testing"

	"comitia/api"
	"comitia/safe"
)

// calls are done to a log, one behind the other.
type calls []func(*safe.Log)

func do(b string) func(*safe.Log) { return func(l *safe.Log) { l.Append(b) } }
func sync(l *safe.Log)            { l.Sync() }
func cut(l *safe.Log)             { l.Cut() }

func crash(keep int) func(*safe.Log) { return func(l *safe.Log) { l.Crash(keep) } }
func fuse(n int) func(*safe.Log)     { return func(l *safe.Log) { l.Fuse(n) } }

// picture is what becomes of a log, whatever is kept of it, and how many calls
// its fuse lets go well: each time of a log to which all of that was done.
func picture(made func() *safe.Log, done calls) []string {
	again := func() *safe.Log {
		l := made()
		for _, call := range done {
			call(l)
		}
		return l
	}
	l := again()
	r, e := l.Records()
	seen := []string{fmt.Sprint(l.Len(), r, e)}
	well := 0
	for well < 20 && l.Sync() == api.OK {
		well++
	}
	seen = append(seen, fmt.Sprint(well))
	for keep := range l.Len() + 1 {
		l := again()
		l.Crash(keep)
		r, e := l.Records()
		seen = append(seen, fmt.Sprintf("%d %q %d", l.Len(), r, e))
	}
	return seen
}

// What answers an error, or tells but what there is, changes nothing.
func TestNothingChanged(t *testing.T) {
	long := mixed(4001)
	records := func(l *safe.Log) { l.Records() }
	size := func(l *safe.Log) { l.Len() }
	for name, x := range map[string]struct{ was, more calls }{
		"no record":            {calls{do("a"), sync, do("bc")}, calls{do(""), do(long)}},
		"no record, a fuse":    {calls{do("a"), sync, do("bc"), fuse(0)}, calls{do(""), do(long), do("")}},
		"no record, a longer":  {calls{do("a"), sync, do("bc"), fuse(3), sync, do("d")}, calls{do(""), do(long), do("")}},
		"looked at":            {calls{do("a"), sync, do("bc")}, calls{records, size, records}},
		"looked at, a fuse":    {calls{do("a"), sync, do("bc"), fuse(2)}, calls{records, size, records}},
		"looked at, a piece":   {calls{do("abcd"), crash(6), do("e")}, calls{records, size, records}},
		"cut of nothing":       {calls{do("a"), sync, do("bc"), fuse(2)}, calls{cut, cut}},
		"lost at an append":    {calls{do("a"), sync, do("bc"), fuse(0), do("d")}, calls{do("d"), do(""), do(long), sync, cut, records, size, fuse(3), fuse(-1), fuse(0)}},
		"lost at a sync":       {calls{do("a"), sync, do("bc"), do("d"), fuse(0), sync}, calls{do("d"), do(""), do(long), sync, cut, records, size, fuse(3), fuse(-1), fuse(0)}},
		"lost behind a piece":  {calls{do("abcd"), crash(6), do("e"), fuse(0), sync}, calls{cut, sync, records, do("f"), size, fuse(1), fuse(-1)}},
		"lost, nothing there":  {calls{fuse(0), sync}, calls{do("a"), do(""), sync, cut, records, size, fuse(9)}},
		"no record, none lost": {calls{}, calls{do(""), do(long), records, size, cut, fuse(-1)}},
	} {
		was := picture(safe.New, x.was)
		for i := range x.more {
			if got := picture(safe.New, append(slices.Clone(x.was), x.more[i])); !slices.Equal(got, was) {
				t.Errorf("%s, call %d: %q, not %q", name, i, got, was)
			}
		}
		if got := picture(safe.New, append(slices.Clone(x.was), x.more...)); !slices.Equal(got, was) {
			t.Errorf("%s: %q, not %q", name, got, was)
		}
	}
}

// The call at which the power goes has changed nothing else: behind a crash
// all is as if it hadn't been.
func TestTheLastCallChangesNothing(t *testing.T) {
	was := calls{do("a"), sync, do("bc"), do("d")}
	want := picture(safe.New, was)
	for _, last := range []func(*safe.Log){do("e"), do(mixed(4000)), sync} {
		got := picture(safe.New, append(slices.Clone(was), fuse(0), last))
		if !slices.Equal(got[2:], want[2:]) {
			t.Errorf("%q, not %q", got, want)
		}
	}
}

// A list that was answered is the caller's: what is written into it, or behind
// it, isn't to be seen in the log, nor in other lists.
func TestRecordsAreNewMemory(t *testing.T) {
	l := safe.New()
	for _, b := range []string{"a", "bc", "def"} {
		l.Append(b)
	}
	first, _ := l.Records()
	second, _ := l.Records()
	for i := range first {
		first[i] = "spoilt"
	}
	first = append(first, "more")
	clear(first[:cap(first)])
	if !slices.Equal(second, []string{"a", "bc", "def"}) {
		t.Errorf("%q", second)
	}
	checkLog(t, l, 18, "a", "bc", "def")
	second = append(second[:1], "x", "y", "z")
	checkLog(t, l, 18, "a", "bc", "def")
	check(t, l.Cut(), api.OK)
	checkLog(t, l, 18, "a", "bc", "def")
}

// A list that was answered stays as it is, whatever comes then.
func TestRecordsStay(t *testing.T) {
	l := safe.New()
	l.Append("aaaa")
	l.Append("bbbb")
	was, _ := l.Records()
	l.Crash(3)
	check(t, l.Cut(), api.OK)
	l.Append("cccc")
	l.Append("dddd")
	now, _ := l.Records()
	l.Crash(0)
	l.Append("eeeeeeeeeeee")
	if !slices.Equal(was, []string{"aaaa", "bbbb"}) || !slices.Equal(now, []string{"cccc", "dddd"}) {
		t.Errorf("%q %q", was, now)
	}
	checkLog(t, l, 16, "eeeeeeeeeeee")
}

// What is handed in isn't kept: bytes that were a text's are the caller's again.
func TestHandedInIsNotKept(t *testing.T) {
	b := []byte(laid("abc") + "\x00\x00")
	l := safe.Of(string(b))
	b[4] = 'x'
	checkLog(t, l, 9, "abc")
	text := laid("abc", "d")[:9]
	l = safe.Of(text)
	check(t, l.Cut(), api.OK)
	l.Append("zzzz")
	if text != laid("abc", "d")[:9] {
		t.Errorf("%q", text)
	}
	checkLog(t, l, 15, "abc", "zzzz")
}

// Two logs, made alike or one of the other one's bytes, don't hang on one
// another.
func TestTwoLogs(t *testing.T) {
	text := laid("one", "two") + "\x00\x00"
	for name, two := range map[string]func() (*safe.Log, *safe.Log, int, []string){
		"new": func() (*safe.Log, *safe.Log, int, []string) { return safe.New(), safe.New(), 0, nil },
		"of": func() (*safe.Log, *safe.Log, int, []string) {
			return safe.Of(text), safe.Of(text), len(text), []string{"one", "two"}
		},
		"of nothing":     func() (*safe.Log, *safe.Log, int, []string) { return safe.Of(""), safe.Of(""), 0, nil },
		"new and of":     func() (*safe.Log, *safe.Log, int, []string) { return safe.Of(""), safe.New(), 0, nil },
		"not made by it": func() (*safe.Log, *safe.Log, int, []string) { return new(safe.Log), new(safe.Log), 0, nil },
	} {
		a, b, size, was := two()
		if a == b {
			t.Fatal(name, "one log")
		}
		check(t, a.Cut(), api.OK)
		checkLog(t, b, size, was...)
		a.Append("only a's")
		a.Sync()
		checkLog(t, b, size, was...)
		a.Fuse(0)
		check(t, b.Sync(), api.OK)
		check(t, b.Cut(), api.OK)
		check(t, b.Append("only b's"), api.OK)
		check(t, a.Sync(), api.ErrLost)
		checkLost(t, a)
		check(t, b.Sync(), api.OK)
		checkLog(t, b, len(laid(was...))+12, append(slices.Clone(was), "only b's")...)
		a.Crash(0)
		b.Fuse(0)
		check(t, a.Append("again a's"), api.OK)
		check(t, b.Sync(), api.ErrLost)
		checkLog(t, a, len(laid(was...))+25, append(slices.Clone(was), "only a's", "again a's")...)
		b.Crash(0)
		checkLog(t, b, len(laid(was...))+12, append(slices.Clone(was), "only b's")...)
		a.Crash(0)
		checkLog(t, b, len(laid(was...))+12, append(slices.Clone(was), "only b's")...)
		checkLog(t, a, len(laid(was...))+12, append(slices.Clone(was), "only a's")...)
	}
}

// Many logs, one call each in turn.
func TestManyLogs(t *testing.T) {
	var logs []*safe.Log
	for range 20 {
		logs = append(logs, safe.New())
	}
	for round := range 30 {
		for i, l := range logs {
			switch {
			case round == i:
				l.Fuse(0)
				check(t, l.Append("x"), api.ErrLost)
				l.Crash(0)
			case round%5 == 4:
				check(t, l.Sync(), api.OK)
			default:
				check(t, l.Append(mixed(i+1)), api.OK)
			}
		}
	}
	for i, l := range logs {
		// Of the 24 appends are lost the one of this round, and those that waited.
		want := 24 - i%5 - 1
		if i%5 == 4 {
			want = 20
		}
		r, e := l.Records()
		if e != api.OK || l.Len() != len(laid(r...)) || len(r) != want {
			t.Error(i, len(r), want, e)
		}
		for _, b := range r {
			if b != mixed(i+1) {
				t.Errorf("%d: %q", i, b)
			}
		}
	}
}
