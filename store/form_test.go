package store_test

import (
	"math"
	"slices"
	"strings"
	"testing"

	"comitia/api"
	"comitia/rule"
	"comitia/safe"
	"comitia/store"
)

// wrongStates are states of views that there are none of. Some have the bytes
// of another state, that is read.
func wrongStates() []rule.State {
	var l []rule.State
	for _, wrong := range []int{-1, -2, -api.MaxView, math.MinInt, math.MinInt32, api.MaxView + 1, api.MaxView + 2, 1 << 20, 1 << 24, most, 1 << 31, 1<<31 + 1, 1 << 32, 1<<32 + 3, 1<<32 - 1, math.MaxInt} {
		l = append(l, views(wrong, 0), views(0, wrong), views(wrong, 2), views(3, wrong), views(wrong, wrong), views(wrong, api.MaxView), views(api.MaxView, wrong))
	}
	return l
}

// moved is two texts, of which the first one gives the second so many bytes.
func moved(many int, a, b string) (string, string) {
	at := len(a) - many
	return a[:at], a[at:] + b
}

// wrongBlocks are all the ways in which a block isn't right.
func wrongBlocks() map[string]api.Block {
	l := map[string]api.Block{"zero": {}}
	for what, change := range wrongChanges() {
		b := middle()
		change(&b)
		l[what] = b
	}
	// These have the bytes of others that are right.
	first := small(1, 1)
	first.Justify.View = -1
	l["a certificate of view -1 for 0"] = first
	first.Justify.View = 1 << 32
	l["a certificate of view 2^32 for 0"] = first
	first = small(1, 0)
	first.Proposer = -1
	l["Proposer -1 for 0"] = first
	first.Proposer = 1 << 31
	l["Proposer 2^31 for 0"] = first
	l["a digest that goes on"] = longDigest()
	return l
}

// longDigest is a block of which the digest goes on with how many signatures
// there are, and a signature's begin: what comes behind is read as the rest.
func longDigest() api.Block {
	b := api.Block{View: 6, Proposer: 2, Justify: api.Cert{View: 5, Block: digest(5) + four(1) + four(3)}}
	b.Batch = []api.Request{}
	return b
}

func wrongChanges() map[string]func(*api.Block) {
	return map[string]func(*api.Block){
		"View 0":            func(b *api.Block) { b.View = 0 },
		"View -1":           func(b *api.Block) { b.View = -1 },
		"View too high":     func(b *api.Block) { b.View = api.MaxView + 1 },
		"View 2^32 + 6":     func(b *api.Block) { b.View = 1<<32 + 6 },
		"greatest View":     func(b *api.Block) { b.View = math.MaxInt },
		"least View":        func(b *api.Block) { b.View = math.MinInt },
		"Proposer -1":       func(b *api.Block) { b.Proposer = -1 },
		"Proposer 7":        func(b *api.Block) { b.Proposer = 7 },
		"Proposer 2^32":     func(b *api.Block) { b.Proposer = 1 << 32 },
		"least Proposer":    func(b *api.Block) { b.Proposer = math.MinInt },
		"the same view":     func(b *api.Block) { b.Justify.View = b.View },
		"a greater view":    func(b *api.Block) { b.Justify.View = b.View + 1 },
		"zero certificate":  func(b *api.Block) { b.Justify = api.Cert{} },
		"certificate of -1": func(b *api.Block) { b.Justify.View = -1 },
		"of 2^32 + 5":       func(b *api.Block) { b.Justify.View = 1<<32 + 5 },
		"no digest":         func(b *api.Block) { b.Justify.Block = "" },
		"short digest":      func(b *api.Block) { b.Justify.Block = b.Justify.Block[:31] },
		"long digest":       func(b *api.Block) { b.Justify.Block += "x" },
		"From -1":           func(b *api.Block) { b.Justify.Sigs[0].From = -1 },
		"From 2^32":         func(b *api.Block) { b.Justify.Sigs[0].From = 1 << 32 },
		"From 7":            func(b *api.Block) { b.Justify.Sigs[2].From = 7 },
		"Froms alike":       func(b *api.Block) { b.Justify.Sigs[1].From = 0 },
		"Froms that fall":   func(b *api.Block) { slices.Reverse(b.Justify.Sigs) },
		"eight signatures":  func(b *api.Block) { b.Justify.Sigs = signed(8, 4) },
		"eight of none":     func(b *api.Block) { b.Justify.Sigs = make([]api.Sig, 8) },
		"eight tags":        func(b *api.Block) { b.Justify.Sigs = signed(3, 8) },
		"no tag":            func(b *api.Block) { b.Justify.Sigs[0].Tags[1] = "" },
		"short tag":         func(b *api.Block) { b.Justify.Sigs[0].Tags[1] = "short" },
		"long tag":          func(b *api.Block) { b.Justify.Sigs[0].Tags[1] += "x" },
		"tags cut elsewhere": func(b *api.Block) {
			tags := b.Justify.Sigs[1].Tags
			tags[2], tags[3] = moved(5, tags[2], tags[3])
		},
		"a tag in the next one": func(b *api.Block) {
			tags := b.Justify.Sigs[1].Tags
			tags[2], tags[3] = moved(16, tags[2], tags[3])
		},
		"four requests": func(b *api.Block) { b.Batch = append(b.Batch, api.Request{Client: 3, Seq: 1}) },
		"Client -1":     func(b *api.Block) { b.Batch[1].Client = -1 },
		"Client 2^32":   func(b *api.Block) { b.Batch[1].Client = 1 << 32 },
		"Client 4":      func(b *api.Block) { b.Batch[0].Client = 4 },
		"Seq 0":         func(b *api.Block) { b.Batch[2].Seq = 0 },
		"Seq -1":        func(b *api.Block) { b.Batch[2].Seq = -1 },
		"Seq 2^31":      func(b *api.Block) { b.Batch[2].Seq = 1 << 31 },
		"Seq 2^32 + 1":  func(b *api.Block) { b.Batch[2].Seq = 1<<32 + 1 },
		"a Body of 41":  func(b *api.Block) { b.Batch[0].Body = strings.Repeat("b", 41) },
		"a long Body":   func(b *api.Block) { b.Batch[0].Body = strings.Repeat("b", 5000) },
	}
}

// checkUnsaved asks for what Save answers of what isn't right, and that it has
// done nothing: no call of the log was counted, and nothing is to be seen.
func checkUnsaved(t *testing.T, what string, x rule.State, l []api.Block) {
	t.Helper()
	was := []string{store.BlockRecord(middle()), smallRecord(4, 4), stateRecord(3, 2)}
	s, log := saved(t, views(3, 2), middle(), small(4, 4))
	check(t, log.Append("waits"), api.OK)
	log.Fuse(0)
	for range 2 {
		if e := s.Save(x, l); e != api.ErrForm {
			t.Errorf("%s: %d", what, e)
		}
	}
	checkStore(t, s, views(3, 2), middle(), small(4, 4))
	checkLog(t, log, append(slices.Clone(was), "waits")...)
	check(t, log.Sync(), api.ErrLost)
	// Also where the power is gone it is what is asked first.
	if e := s.Save(x, l); e != api.ErrForm {
		t.Errorf("%s, where the power is gone: %d", what, e)
	}
	log.Crash(0)
	checkLog(t, log, was...)
	checkStore(t, opened(t, log), views(3, 2), middle(), small(4, 4))
	check(t, s.Save(views(4, 2), nil), api.OK)
	checkStore(t, s, views(4, 2), middle(), small(4, 4))
}

func TestSaveOfWrongStates(t *testing.T) {
	for _, x := range wrongStates() {
		what := store.Record(x)
		checkUnsaved(t, what, x, nil)
		checkUnsaved(t, what, x, []api.Block{})
		checkUnsaved(t, what, x, []api.Block{middle()})
		checkUnsaved(t, what, x, []api.Block{small(5, 5), greatestBlock()})
		checkUnsaved(t, what, x, []api.Block{{}})
	}
}

// The bytes of these are those of the state that is remembered.
func TestSaveOfWrongStatesLikeTheRemembered(t *testing.T) {
	for _, wrong := range []int{-1, 1 << 31, math.MinInt, math.MaxInt} {
		l := safe.New()
		s := opened(t, l)
		check(t, s.Save(views(wrong, wrong), nil), api.ErrForm)
		check(t, s.Save(views(0, wrong), nil), api.ErrForm)
		check(t, s.Save(views(wrong, 0), nil), api.ErrForm)
		checkLog(t, l)
		checkStore(t, s, views(0, 0))
	}
}

// Alone, first, last, beside right ones, with whatever state.
func TestSaveOfWrongBlocks(t *testing.T) {
	for what, b := range wrongBlocks() {
		for _, x := range []rule.State{views(3, 2), views(0, 0), views(4, 2), views(2, 7), views(api.MaxView, api.MaxView)} {
			checkUnsaved(t, what, x, []api.Block{b})
			checkUnsaved(t, what, x, []api.Block{b, small(5, 5), small(6, 6)})
			checkUnsaved(t, what, x, []api.Block{small(5, 5), b, small(6, 6)})
			checkUnsaved(t, what, x, []api.Block{small(5, 5), small(6, 6), b})
			checkUnsaved(t, what, x, []api.Block{small(5, 5), b})
			checkUnsaved(t, what, x, []api.Block{b, b})
		}
		checkUnsaved(t, what, views(-1, 2), []api.Block{b})
	}
}

// Two wrong ones of unlike kinds, in whichever order.
func TestSaveOfTwoWrongBlocks(t *testing.T) {
	for what, a := range wrongBlocks() {
		for _, b := range []api.Block{{}, longDigest()} {
			checkUnsaved(t, what, views(4, 2), []api.Block{a, b})
			checkUnsaved(t, what, views(4, 2), []api.Block{b, a})
		}
	}
}

// The trial is one: many of these have bytes that are read, as another's.
func TestWrongBlocksThatAreRead(t *testing.T) {
	read := 0
	for _, b := range wrongBlocks() {
		if _, l := store.Recall([]string{store.BlockRecord(b)}); len(l) > 0 {
			read++
		}
	}
	if read < 10 {
		t.Error(read)
	}
}
