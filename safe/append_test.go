package safe_test

import (
	"slices"
	"strings"
	"testing"

	"comitia/api"
	"comitia/safe"
)

// four are a number's bytes, made by hand.
func four(n uint32) string {
	return string([]byte{byte(n >> 24), byte(n >> 16), byte(n >> 8), byte(n)})
}

// mixed are so many bytes, hardly two neighbours alike, zeros among them.
func mixed(many int) string {
	b := make([]byte, many)
	for i := range b {
		b[i] = byte(i * 37 / 2)
	}
	return string(b)
}

// laid are records' bytes, one behind the other.
func laid(l ...string) string {
	var b strings.Builder
	for _, r := range l {
		b.WriteString(four(uint32(len(r))) + r)
	}
	return b.String()
}

func check(t *testing.T, got, want api.Errno) {
	t.Helper()
	if got != want {
		t.Errorf("%d, not %d", got, want)
	}
}

// checkLog asks for what can be seen of a log whose power is there.
func checkLog(t *testing.T, l *safe.Log, size int, want ...string) {
	t.Helper()
	if l.Len() != size {
		t.Errorf("%d bytes, not %d", l.Len(), size)
	}
	if r, e := l.Records(); e != api.OK || !slices.Equal(r, want) {
		t.Errorf("%q %d, not %q", r, e, want)
	}
}

// checkLost asks for all that a log whose power is gone must not do.
func checkLost(t *testing.T, l *safe.Log) {
	t.Helper()
	size := l.Len()
	for range 2 {
		for _, b := range []string{"a", "bc", "", mixed(4000), mixed(4001)} {
			check(t, l.Append(b), api.ErrLost)
		}
		check(t, l.Sync(), api.ErrLost)
		if r, e := l.Records(); e != api.ErrLost || len(r) != 0 {
			t.Errorf("%q %d", r, e)
		}
		check(t, l.Cut(), api.ErrLost)
		if l.Len() != size {
			t.Errorf("%d bytes, not %d", l.Len(), size)
		}
	}
}

func TestNew(t *testing.T) {
	checkLog(t, safe.New(), 0)
	l := safe.New()
	check(t, l.Sync(), api.OK)
	checkLog(t, l, 0)
	check(t, l.Cut(), api.OK)
	checkLog(t, l, 0)
	l.Crash(7)
	checkLog(t, l, 0)
}

// A log that New hasn't made is as a new one.
func TestZero(t *testing.T) {
	l := new(safe.Log)
	checkLog(t, l, 0)
	check(t, l.Append("a"), api.OK)
	checkLog(t, l, 5, "a")
	l.Crash(4)
	checkLog(t, l, 4)
}

// Records are read as they were appended, waiting or safe.
func TestAppend(t *testing.T) {
	l, size := safe.New(), 0
	var want []string
	for i, b := range []string{"a", "bc", "\x00", "\x00\x00\x00\x00", "\x00\x00\x00\x01x", "\xff\xfe", "a", "é", mixed(4000), "z", mixed(4000), mixed(255), mixed(256), mixed(257), mixed(3999)} {
		check(t, l.Append(b), api.OK)
		size += 4 + len(b)
		want = append(want, b)
		checkLog(t, l, size, want...)
		if i%3 == 2 {
			check(t, l.Sync(), api.OK)
			checkLog(t, l, size, want...)
		}
	}
	l.Crash(0)
	checkLog(t, l, size, want...)
}

// Whatever length from 1 to 4000.
func TestAppendOfEachLength(t *testing.T) {
	whole := mixed(4000)
	for many := 1; many <= 4000; many++ {
		l := safe.New()
		check(t, l.Append(whole[:many]), api.OK)
		check(t, l.Append("end"), api.OK)
		checkLog(t, l, 4+many+7, whole[:many], "end")
	}
}

// Of no bytes, or of more than 4000, nothing comes, whatever there is.
func TestAppendOfNone(t *testing.T) {
	wrong := []string{"", mixed(4001), mixed(4002), mixed(4096), mixed(8000), mixed(65536), mixed(65537), mixed(1 << 20)}
	l := safe.New()
	for _, b := range wrong {
		check(t, l.Append(b), api.ErrArg)
		checkLog(t, l, 0)
	}
	l.Append("a")
	l.Sync()
	l.Append("bc")
	for _, b := range wrong {
		check(t, l.Append(b), api.ErrArg)
		checkLog(t, l, 11, "a", "bc")
	}
	// What waited waits.
	l.Crash(0)
	checkLog(t, l, 5, "a")
	for _, b := range wrong {
		check(t, l.Append(b), api.ErrArg)
	}
	checkLog(t, l, 5, "a")
}

// What is synced stays, whatever a crash keeps; what comes behind a sync waits.
func TestSync(t *testing.T) {
	for keep := -30; keep <= 30; keep++ {
		l := safe.New()
		l.Append("a")
		l.Append("bcd")
		check(t, l.Sync(), api.OK)
		checkLog(t, l, 12, "a", "bcd")
		l.Crash(keep)
		checkLog(t, l, 12, "a", "bcd")
		check(t, l.Sync(), api.OK)
		l.Append("e")
		l.Crash(0)
		checkLog(t, l, 12, "a", "bcd")
		l.Append("f")
		check(t, l.Sync(), api.OK)
		l.Append("g")
		l.Crash(0)
		checkLog(t, l, 17, "a", "bcd", "f")
	}
}

// Many records, and the room that they take.
func TestMany(t *testing.T) {
	l := safe.New()
	var want []string
	size := 0
	for i := range 20000 {
		b := mixed(1 + i%50)
		check(t, l.Append(b), api.OK)
		want = append(want, b)
		size += 4 + len(b)
		if i%1000 == 500 {
			check(t, l.Sync(), api.OK)
		}
		if l.Len() != size {
			t.Fatal(l.Len(), size)
		}
	}
	checkLog(t, l, size, want...)
	check(t, l.Cut(), api.OK)
	checkLog(t, l, size, want...)
	l.Crash(0)
	checkLog(t, l, len(laid(want[:19501]...)), want[:19501]...)
}
