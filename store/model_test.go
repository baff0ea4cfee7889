package store_test

import (
	"fmt"
	"math/rand/v2"
	"slices"
	"testing"

	"comitia/api"
	"comitia/rule"
	"comitia/safe"
	"comitia/store"
)

// A plain log: two texts, and how many calls go well ahead of the one at which
// the power goes, -1 without a fuse.
type plainLog struct {
	safe, waits string
	fuse        int
	lost        bool
}

func (p *plainLog) counted() bool {
	p.lost = p.lost || p.fuse == 0
	if p.fuse > 0 {
		p.fuse--
	}
	return !p.lost
}

func (p *plainLog) append(record string) bool {
	if !p.counted() {
		return false
	}
	p.waits += laid(record)
	return true
}

func (p *plainLog) sync() bool {
	if !p.counted() {
		return false
	}
	p.safe, p.waits = p.safe+p.waits, ""
	return true
}

func (p *plainLog) crash(keep int) {
	*p = plainLog{safe: p.safe + p.waits[:keep%(len(p.waits)+1)], fuse: -1}
}

// records are the log's records; what is behind them is cut, if asked for.
func (p *plainLog) records(cut bool) []string {
	var l []string
	all, at := p.safe+p.waits, 0
	for at+4 <= len(all) {
		n := uint64(all[at])<<24 + uint64(all[at+1])<<16 + uint64(all[at+2])<<8 + uint64(all[at+3])
		if n == 0 || n > 4000 || at+4+int(n) > len(all) {
			break
		}
		l = append(l, all[at+4:at+4+int(n)])
		at += 4 + int(n)
	}
	if cut {
		p.safe, p.waits = all[:min(at, len(p.safe))], all[min(at, len(p.safe)):at]
	}
	return l
}

// An entry is a block that the trial goes with, by its place in the menu.
type entry struct {
	b      api.Block
	record string // none of one that isn't right
}

// menu are blocks, the last three of which aren't right.
func menu() []entry {
	l := []entry{{small(1, 0), smallRecord(1, 0)}, {small(2, 1), smallRecord(2, 1)}, {small(7, 9), smallRecord(7, 9)},
		{middle(), store.BlockRecord(middle())}, {greatestBlock(), store.BlockRecord(greatestBlock())}}
	negative := small(1, 0)
	negative.Proposer = -1
	return append(l, entry{b: api.Block{}}, entry{b: negative}, entry{b: longDigest()})
}

// A plain memory: of the blocks it has the places in the menu.
type plainStore struct {
	voted, locked int
	blocks        []int
}

// recalled goes through records one by one: any is one of the menu, a state's
// by its bytes, or ends it.
func recalled(records []string, menu []entry) plainStore {
	var p plainStore
	for _, r := range records {
		if place := slices.IndexFunc(menu, func(x entry) bool { return x.record == r }); r != "" && place >= 0 {
			p.blocks = append(p.blocks, place)
			continue
		}
		voted, locked, ok := viewsOf(r)
		if !ok {
			break
		}
		p.voted, p.locked = max(p.voted, voted), max(p.locked, locked)
	}
	return p
}

// viewsOf are the views of a state's record.
func viewsOf(r string) (int, int, bool) {
	if len(r) != 9 || r[0] != 'S' {
		return 0, 0, false
	}
	voted := int(r[1])<<24 + int(r[2])<<16 + int(r[3])<<8 + int(r[4])
	locked := int(r[5])<<24 + int(r[6])<<16 + int(r[7])<<8 + int(r[8])
	return voted, locked, voted <= 1000000 && locked <= 1000000
}

// save is what the chapter says, word by word.
func (p *plainStore) save(log *plainLog, x rule.State, places []int, menu []entry) api.Errno {
	if x.Voted < 0 || x.Voted > 1000000 || x.Locked < 0 || x.Locked > 1000000 {
		return api.ErrForm
	}
	var records []string
	for _, i := range places {
		if menu[i].record == "" {
			return api.ErrForm
		}
		records = append(records, menu[i].record)
	}
	if x.Voted != p.voted || x.Locked != p.locked {
		records = append(records, stateRecord(uint32(x.Voted), uint32(x.Locked)))
	}
	for _, r := range records {
		if !log.append(r) {
			return api.ErrLost
		}
	}
	if len(records) > 0 && !log.sync() {
		return api.ErrLost
	}
	p.voted, p.locked = max(p.voted, x.Voted), max(p.locked, x.Locked)
	p.blocks = append(slices.Clone(p.blocks), places...)
	return api.OK
}

// A trial is a log and its memory, and plain ones, to which the same is done.
type trial struct {
	t      *testing.T
	l      *safe.Log
	s      *store.Store
	pl     *plainLog
	ps     plainStore
	menu   []entry
	done   []string
	counts map[string]int
}

func (x *trial) wrong(what string, got, want any) {
	x.t.Helper()
	x.t.Fatalf("%s: %v, not %v; done: %q", what, got, want, x.done)
}

func (x *trial) open() {
	x.t.Helper()
	x.done = append(x.done, "Open")
	s, e := store.Open(x.l)
	if x.pl.lost {
		if s != nil || e != api.ErrLost {
			x.wrong("Open", e, api.ErrLost)
		}
		x.counts["no memory"]++
		return
	}
	if s == nil || e != api.OK {
		x.wrong("Open", e, api.OK)
	}
	size := len(x.pl.safe) + len(x.pl.waits)
	x.s, x.ps = s, recalled(x.pl.records(true), x.menu)
	if len(x.pl.safe)+len(x.pl.waits) < size {
		x.counts["cut"]++
	}
}

func (x *trial) save(state rule.State, places []int) {
	x.t.Helper()
	x.done = append(x.done, fmt.Sprint("Save", state, places))
	var l []api.Block
	for _, i := range places {
		l = append(l, x.menu[i].b)
	}
	got, want := x.s.Save(state, l), x.ps.save(x.pl, state, places, x.menu)
	if got != want {
		x.wrong("Save", got, want)
	}
	x.counts[fmt.Sprint("Save", want)]++
}

// look asks for all that can be seen.
func (x *trial) look() {
	x.t.Helper()
	if got, want := x.s.State(), views(x.ps.voted, x.ps.locked); got != want {
		x.wrong("State", got, want)
	}
	var l []api.Block
	for _, i := range x.ps.blocks {
		l = append(l, x.menu[i].b)
	}
	if got := x.s.Blocks(); !sameBlocks(got, l) {
		x.wrong("Blocks", brief(got), brief(l))
	}
	if got, want := x.l.Len(), len(x.pl.safe)+len(x.pl.waits); got != want {
		x.wrong("Len", got, want)
	}
	if x.pl.lost {
		return
	}
	if r, e := x.l.Records(); e != api.OK || !slices.Equal(r, x.pl.records(false)) {
		x.wrong("Records", len(r), len(x.pl.records(false)))
	}
}

func (x *trial) crash(keep int) {
	x.done = append(x.done, fmt.Sprintf("Crash(%d)", keep))
	x.l.Crash(keep)
	x.pl.crash(keep)
}

// torn tells whether the log ends in a piece.
func (x *trial) torn() bool {
	return len(laid(x.pl.records(false)...)) < len(x.pl.safe)+len(x.pl.waits)
}

func (x *trial) fuse(n int) {
	x.done = append(x.done, fmt.Sprintf("Fuse(%d)", n))
	x.l.Fuse(n)
	if !x.pl.lost {
		x.pl.fuse = n
	}
}

// begin is a trial on a log of some bytes.
func begin(t *testing.T, b string, counts map[string]int) *trial {
	x := &trial{t: t, l: safe.Of(b), pl: &plainLog{safe: b, fuse: -1}, menu: menu(), counts: counts}
	x.open()
	return x
}

// Whatever calls, at random, of one memory or of one that is opened then, also
// on a log to which another one appends.
func TestWhateverCalls(t *testing.T) {
	r := rand.New(rand.NewPCG(10, 10))
	begins := []string{"", "\x00", laid("S"), laid(stateRecord(2, 3)), laid(smallRecord(1, 0), stateRecord(1, 1)) + "\x00\x00\x00\x09S", laid(smallRecord(7, 9), "X", stateRecord(9, 9)) + "\x00\x00"}
	counts := map[string]int{}
	for range 700 {
		x := begin(t, begins[r.IntN(len(begins))], counts)
		for range 40 {
			switch n := r.IntN(20); {
			case n < 11:
				x.save(someState(r, x.ps), somePlaces(r, len(x.menu)))
			case n < 13:
				x.fuse(r.IntN(7) - 1)
			case n < 15:
				x.crash(r.IntN(3000))
				if x.torn() {
					x.open() // or what is appended then would be read with the piece
				}
			case n < 18:
				x.open()
			case n < 19:
				x.append([]string{stateRecord(3, 8), smallRecord(2, 1), "S", "other"}[r.IntN(4)])
			default:
				x.sync()
			}
			x.look()
			if x.pl.lost && r.IntN(3) == 0 {
				x.crash(r.IntN(3000))
				x.open()
				x.look()
			}
		}
	}
	for what, least := range map[string]int{"no memory": 100, "cut": 500, "Save0": 5000, "Save2": 1000, "Save8": 1000} {
		if counts[what] < least {
			t.Errorf("%s: %d times only, that is no trial", what, counts[what])
		}
	}
}

func (x *trial) append(record string) {
	x.t.Helper()
	x.done = append(x.done, "another's Append of "+record)
	if got, want := x.l.Append(record) == api.OK, x.pl.append(record); got != want {
		x.wrong("Append", got, want)
	}
}

func (x *trial) sync() {
	x.t.Helper()
	x.done = append(x.done, "another's Sync")
	if got, want := x.l.Sync() == api.OK, x.pl.sync(); got != want {
		x.wrong("Sync", got, want)
	}
}

// someState is one at random, often the one that is remembered, or near it.
func someState(r *rand.Rand, p plainStore) rule.State {
	switch n := r.IntN(12); {
	case n < 4:
		return views(p.voted, p.locked)
	case n < 8:
		return views(max(0, p.voted+r.IntN(3)-1), max(0, p.locked+r.IntN(3)-1))
	case n < 11:
		return views(r.IntN(12), r.IntN(12))
	}
	ends := []int{-1, 0, 1000001, 1 << 31}
	return views(ends[r.IntN(len(ends))], ends[r.IntN(len(ends))])
}

// somePlaces are some at random, seldom ones of blocks that aren't right.
func somePlaces(r *rand.Rand, many int) []int {
	var l []int
	for range r.IntN(4) {
		if r.IntN(12) == 0 {
			l = append(l, many-1-r.IntN(3))
		} else {
			l = append(l, r.IntN(many-3))
		}
	}
	return l
}

// Whatever three calls of these, on whatever log.
func TestWhateverThreeCalls(t *testing.T) {
	deeds := []func(*trial){
		func(x *trial) { x.save(views(0, 0), nil) },
		func(x *trial) { x.save(views(2, 1), nil) },
		func(x *trial) { x.save(views(1, 2), []int{0}) },
		func(x *trial) { x.save(views(0, 0), []int{1, 1}) },
		func(x *trial) { x.save(views(2, 2), []int{2, 0, 1}) },
		func(x *trial) { x.save(views(3, 3), []int{0, 5}) },
		func(x *trial) { x.save(views(3, -1), []int{0}) },
		func(x *trial) { x.fuse(0) },
		func(x *trial) { x.fuse(1) },
		func(x *trial) { x.fuse(2) },
		func(x *trial) { x.crash(0) },
		func(x *trial) { x.crash(13) },
		func(x *trial) { x.crash(70) },
		func(x *trial) { x.open() },
	}
	for _, b := range []string{"", laid(stateRecord(2, 1)) + "\x00", laid(smallRecord(1, 0), "X")} {
		for three := range len(deeds) * len(deeds) * len(deeds) {
			x := begin(t, b, map[string]int{})
			for rest, left := three, 3; left > 0; rest, left = rest/len(deeds), left-1 {
				deeds[rest%len(deeds)](x)
				x.look()
			}
			x.open()
			x.crash(60)
			x.open()
			x.look()
		}
	}
}
