package safe_test

import (
	"fmt"
	"math"
	"math/rand/v2"
	"slices"
	"testing"

	"comitia/api"
	"comitia/safe"
)

// A plain log: two texts, and how many calls go well ahead of the one at which
// the power goes, -1 without a fuse.
type plain struct {
	safe, waits string
	fuse        int
	lost        bool
}

func (p *plain) counted() bool {
	if p.fuse == 0 {
		p.lost = true
		return false
	}
	if p.fuse > 0 {
		p.fuse--
	}
	return true
}

func (p *plain) append(b string) api.Errno {
	switch {
	case p.lost:
		return api.ErrLost
	case len(b) == 0 || len(b) > 4000:
		return api.ErrArg
	case !p.counted():
		return api.ErrLost
	}
	p.waits += laid(b)
	return api.OK
}

func (p *plain) sync() api.Errno {
	if p.lost || !p.counted() {
		return api.ErrLost
	}
	p.safe, p.waits = p.safe+p.waits, ""
	return api.OK
}

func (p *plain) crash(keep int) {
	p.safe += p.waits[:keptOf(keep, len(p.waits))]
	*p = plain{safe: p.safe, fuse: -1}
}

func (p *plain) setFuse(n int) {
	if !p.lost {
		p.fuse = max(n, -1)
	}
}

// read are the records, and how many bytes they have.
func (p *plain) read() ([]string, int) {
	var l []string
	all, at := p.safe+p.waits, 0
	for at+4 <= len(all) {
		n := uint64(all[at])<<24 + uint64(all[at+1])<<16 + uint64(all[at+2])<<8 + uint64(all[at+3])
		if n == 0 || n > 4000 || at+4+int(n) > len(all) {
			break
		}
		l = append(l, all[at+4:at+4+int(n)])
		at += 4 + int(n)
	}
	return l, at
}

func (p *plain) records() ([]string, api.Errno) {
	if p.lost {
		return nil, api.ErrLost
	}
	l, _ := p.read()
	return l, api.OK
}

func (p *plain) cut() api.Errno {
	if p.lost {
		return api.ErrLost
	}
	_, end := p.read()
	if end <= len(p.safe) {
		p.safe, p.waits = p.safe[:end], ""
	} else {
		p.waits = p.waits[:end-len(p.safe)]
	}
	return api.OK
}

// both is a log and a plain one, to which the same is done.
type both struct {
	l *safe.Log
	p *plain
}

func bothOf(b string) both {
	return both{safe.Of(b), &plain{safe: b, fuse: -1}}
}

// unlike tells what two answers are, if they aren't one.
func unlike(call string, got, want api.Errno) string {
	if got == want {
		return ""
	}
	return fmt.Sprintf("%s: %d, not %d", call, got, want)
}

// A deed is one call to both, that tells what is unlike, if anything.
type deed struct {
	name string
	do   func(both) string
}

func appending(b string) deed {
	name := fmt.Sprintf("Append(%.9q, %d)", b, len(b))
	return deed{name, func(x both) string { return unlike(name, x.l.Append(b), x.p.append(b)) }}
}

func crashing(keep int) deed {
	return deed{fmt.Sprintf("Crash(%d)", keep), func(x both) string {
		x.l.Crash(keep)
		x.p.crash(keep)
		return ""
	}}
}

func fusing(n int) deed {
	return deed{fmt.Sprintf("Fuse(%d)", n), func(x both) string {
		x.l.Fuse(n)
		x.p.setFuse(n)
		return ""
	}}
}

var syncing = deed{"Sync", func(x both) string { return unlike("Sync", x.l.Sync(), x.p.sync()) }}
var cutting = deed{"Cut", func(x both) string { return unlike("Cut", x.l.Cut(), x.p.cut()) }}

var reading = deed{"Records", func(x both) string {
	got, e := x.l.Records()
	want, wantE := x.p.records()
	if e != wantE || !slices.Equal(got, want) {
		return fmt.Sprintf("Records: %q %d, not %q %d", got, e, want, wantE)
	}
	return ""
}}

var measuring = deed{"Len", func(x both) string {
	if want := len(x.p.safe) + len(x.p.waits); x.l.Len() != want {
		return fmt.Sprintf("Len: %d, not %d", x.l.Len(), want)
	}
	return ""
}}

// Whatever four calls are done, to whatever log.
func TestWhateverFourCalls(t *testing.T) {
	deeds := []deed{
		appending("a"), appending("bc"), appending(""), appending(mixed(4001)), syncing,
		crashing(0), crashing(3), crashing(5), crashing(-1), crashing(6),
		fusing(0), fusing(1), fusing(2), fusing(-1), reading, cutting, measuring,
	}
	for _, begin := range []string{"", "\x00\x00\x00", "\x00\x00\x00\x01x", "\x00\x00\x00\x08y"} {
		for four := range len(deeds) * len(deeds) * len(deeds) * len(deeds) {
			x := bothOf(begin)
			var done []string
			rest := four
			for range 4 {
				d := deeds[rest%len(deeds)]
				rest /= len(deeds)
				done = append(done, d.name)
				checkDeed(t, x, d, begin, done)
			}
			for _, d := range []deed{measuring, reading, crashing(2), measuring, reading} {
				checkDeed(t, x, d, begin, done)
			}
		}
	}
}

func checkDeed(t *testing.T, x both, d deed, begin string, done []string) {
	t.Helper()
	if wrong := d.do(x); wrong != "" {
		t.Fatalf("of %q, %q: %s", begin, done, wrong)
	}
}

// Longer ones, at random.
func TestWhateverCalls(t *testing.T) {
	r := rand.New(rand.NewPCG(9, 9))
	begins := []string{"", "\x00", "\x00\x00\x00\x08y", "\x00\x00\x00\x00", laid("a", "bc"), laid("a") + "\x00\x00\x00\x20piece", laid("a") + four(4001)}
	lost, cut := 0, 0
	for range 3000 {
		begin := begins[r.IntN(len(begins))]
		x := bothOf(begin)
		var done []string
		for range 60 {
			d := someDeed(r)
			done = append(done, d.name)
			size := x.l.Len()
			checkDeed(t, x, d, begin, done)
			checkDeed(t, x, measuring, begin, done)
			if x.p.lost {
				lost++
			} else if d.name == "Cut" && x.l.Len() < size {
				cut++
			}
		}
		checkDeed(t, x, reading, begin, done)
	}
	if lost < 1000 || cut < 1000 {
		t.Errorf("the power was gone %d times, a piece was cut %d times: that is no trial", lost, cut)
	}
}

func someDeed(r *rand.Rand) deed {
	keeps := []int{r.IntN(40), -r.IntN(40), math.MaxInt32 - r.IntN(40), math.MinInt32 + r.IntN(40), 0, -1}
	texts := []string{"", mixed(4001), mixed(4000), mixed(1 + r.IntN(10)), "z", "\x00\x00", "\x00\x00\x00\x01", "\x00\x00\x00\x02a"}
	switch n := r.IntN(20); {
	case n < 8:
		return appending(texts[r.IntN(len(texts))])
	case n < 10:
		return syncing
	case n < 13:
		return crashing(keeps[r.IntN(3)])
	case n < 14:
		return crashing(keeps[4+r.IntN(2)])
	case n < 15:
		return fusing(r.IntN(9) - 2)
	case n < 17:
		return cutting
	case n < 19:
		return reading
	}
	return measuring
}
