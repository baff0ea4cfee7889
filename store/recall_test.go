package store_test

import (
	"fmt"
	"slices"
	"strings"
	"testing"

	"comitia/api"
	"comitia/rule"
	"comitia/store"
)

// noRecords are records that are neither a state's nor a block's.
func noRecords() map[string]string {
	state, b := stateRecord(9, 8), smallRecord(9, 9)
	l := map[string]string{
		"empty":                      "",
		"S alone":                    "S",
		"B alone":                    "B",
		"another byte alone":         "x",
		"a zero byte alone":          "\x00",
		"small s":                    "s" + state[1:],
		"small b":                    "b" + b[1:],
		"a state without its S":      state[1:],
		"a block without its B":      b[1:],
		"a state with a B":           "B" + state[1:],
		"a block with an S":          "S" + b[1:],
		"S twice":                    "S" + state,
		"B twice":                    "B" + b,
		"a byte ahead of the S":      "\x00" + state,
		"a byte ahead of the B":      "\x00" + b,
		"a byte too many, S":         state + "\x00",
		"a byte too many, B":         b + "\x00",
		"two states in one":          state + state,
		"two blocks in one":          b + b,
		"a state and a block in one": state + b,
		"a block and a state in one": b + state,
		"Voted too high":             stateRecord(api.MaxView+1, 8),
		"Locked too high":            stateRecord(9, api.MaxView+1),
		"both too high":              stateRecord(1<<32-1, 1<<31),
		"Voted below 0":              "S\xff\xff\xff\xff" + four(8),
		"a zero block":               store.BlockRecord(api.Block{}),
		"a log's piece":              laid(state),
	}
	for what, x := range wrongBytes() {
		l[what] = "B" + x
	}
	return l
}

// wrongBytes are the bytes of blocks that aren't right.
func wrongBytes() map[string]string {
	cert := four(5) + digest(5) + four(0)
	tag := strings.Repeat("t", 16)
	return map[string]string{
		"View 0":            four(0) + four(2) + four(0) + digest(5) + four(0) + four(0),
		"View too high":     four(api.MaxView+1) + four(2) + cert + four(0),
		"Proposer 7":        four(9) + four(7) + cert + four(0),
		"its own view":      four(5) + four(2) + cert + four(0),
		"a greater view":    four(4) + four(2) + cert + four(0),
		"a From of 7":       four(9) + four(2) + four(5) + digest(5) + four(1) + four(7) + four(0) + four(0),
		"Froms that fall":   four(9) + four(2) + four(5) + digest(5) + four(2) + four(1) + four(0) + four(0) + four(0) + four(0),
		"Froms alike":       four(9) + four(2) + four(5) + digest(5) + four(2) + four(1) + four(0) + four(1) + four(0) + four(0),
		"eight tags":        four(9) + four(2) + four(5) + digest(5) + four(1) + four(1) + four(8) + strings.Repeat(tag, 8) + four(0),
		"four requests":     four(9) + four(2) + cert + four(4) + strings.Repeat(four(1)+four(1)+four(0), 4),
		"Client 4":          four(9) + four(2) + cert + four(1) + four(4) + four(1) + four(0),
		"Seq 0":             four(9) + four(2) + cert + four(1) + four(1) + four(0) + four(0),
		"a Body of 41":      four(9) + four(2) + cert + four(1) + four(1) + four(1) + four(41) + strings.Repeat("b", 41),
		"fewer requests":    four(9) + four(2) + cert + four(2) + four(1) + four(1) + four(0),
		"endless requests":  four(9) + four(2) + cert + four(1<<32-1),
		"endless nodes":     four(9) + four(2) + four(5) + digest(5) + four(1<<31),
		"an endless length": four(9) + four(2) + cert + four(1) + four(1) + four(1) + four(1<<32-1) + "b",
	}
}

func TestRecallOfNone(t *testing.T) {
	checkRecall(t, nil, views(0, 0))
	checkRecall(t, []string{}, views(0, 0))
}

// Of the states both views are the greatest ones, of whichever.
func TestRecallOfStates(t *testing.T) {
	for _, x := range []struct {
		l    []rule.State
		want rule.State
	}{
		{[]rule.State{views(0, 0)}, views(0, 0)},
		{[]rule.State{views(3, 2)}, views(3, 2)},
		{[]rule.State{views(2, 3)}, views(2, 3)},
		{[]rule.State{views(0, 5)}, views(0, 5)},
		{[]rule.State{views(5, 0)}, views(5, 0)},
		{[]rule.State{views(3, 2), views(4, 2)}, views(4, 2)},
		{[]rule.State{views(4, 2), views(3, 2)}, views(4, 2)},
		{[]rule.State{views(3, 2), views(3, 3)}, views(3, 3)},
		{[]rule.State{views(3, 3), views(3, 2)}, views(3, 3)},
		{[]rule.State{views(9, 1), views(1, 9)}, views(9, 9)},
		{[]rule.State{views(1, 9), views(9, 1)}, views(9, 9)},
		{[]rule.State{views(9, 9), views(1, 1)}, views(9, 9)},
		{[]rule.State{views(1, 1), views(9, 1), views(1, 9), views(2, 2)}, views(9, 9)},
		{[]rule.State{views(9, 9), views(0, 0)}, views(9, 9)},
		{[]rule.State{views(api.MaxView, 0), views(0, api.MaxView)}, views(api.MaxView, api.MaxView)},
		{[]rule.State{views(api.MaxView, api.MaxView), views(api.MaxView-1, api.MaxView-1)}, views(api.MaxView, api.MaxView)},
		{[]rule.State{views(255, 256), views(256, 255)}, views(256, 256)},
	} {
		var l []string
		for _, s := range x.l {
			l = append(l, stateRecord(uint32(s.Voted), uint32(s.Locked)))
		}
		checkRecall(t, l, x.want)
	}
}

// All lists of at most four states of small views.
func TestRecallOfAllStates(t *testing.T) {
	for size := range 5 {
		for bits := range 1 << (4 * size) {
			var l []string
			want := rule.State{}
			for i := range size {
				voted, locked := bits>>(4*i)&3, bits>>(4*i+2)&3
				l = append(l, stateRecord(uint32(voted), uint32(locked)))
				if voted > want.Voted {
					want.Voted = voted
				}
				if locked > want.Locked {
					want.Locked = locked
				}
			}
			checkRecall(t, l, want)
		}
	}
}

// Blocks are told in order, each as often as it is there.
func TestRecallOfBlocks(t *testing.T) {
	a, b, c := small(3, 1), small(1, 2), middle()
	ra, rb, rc := store.BlockRecord(a), store.BlockRecord(b), store.BlockRecord(c)
	checkRecall(t, []string{ra}, views(0, 0), a)
	checkRecall(t, []string{ra, rb, rc}, views(0, 0), a, b, c)
	checkRecall(t, []string{rc, rb, ra}, views(0, 0), c, b, a)
	checkRecall(t, []string{ra, ra, rb, ra}, views(0, 0), a, a, b, a)
	checkRecall(t, []string{ra, rb, ra, rb}, views(0, 0), a, b, a, b)
	// Whatever their views are, no state hangs on them.
	checkRecall(t, []string{store.BlockRecord(greatestBlock())}, views(0, 0), greatestBlock())
	other := middle()
	other.Justify.Sigs = other.Justify.Sigs[1:]
	checkRecall(t, []string{rc, store.BlockRecord(other), rc}, views(0, 0), c, other, c)
}

// Both, one between the other.
func TestRecallOfBoth(t *testing.T) {
	a, b := small(3, 1), middle()
	ra, rb := store.BlockRecord(a), store.BlockRecord(b)
	checkRecall(t, []string{ra, stateRecord(3, 2), rb, stateRecord(2, 4)}, views(3, 4), a, b)
	checkRecall(t, []string{stateRecord(3, 2), ra, rb, stateRecord(2, 4)}, views(3, 4), a, b)
	checkRecall(t, []string{stateRecord(3, 2), stateRecord(2, 4), ra, rb}, views(3, 4), a, b)
	checkRecall(t, []string{rb, ra, stateRecord(1, 1)}, views(1, 1), b, a)
	checkRecall(t, []string{rb, stateRecord(1, 1), rb}, views(1, 1), b, b)
}

// The first record that is neither ends it, whatever comes behind, wherever it
// stands.
func TestRecallEndsAtNoRecord(t *testing.T) {
	ahead := []string{stateRecord(3, 2), smallRecord(3, 3), smallRecord(4, 4), stateRecord(2, 5), smallRecord(5, 5)}
	for what, wrong := range noRecords() {
		for many := range len(ahead) + 1 {
			x := views(0, 0)
			var l []api.Block
			for _, r := range ahead[:many] {
				switch r {
				case stateRecord(3, 2):
					x = views(3, 2)
				case stateRecord(2, 5):
					x = views(3, 5)
				default:
					l = append(l, small(3+len(l), 3+len(l)))
				}
			}
			for _, behind := range [][]string{nil, {stateRecord(100, 100)}, {smallRecord(100, 100)}, {wrong}, ahead, {wrong, stateRecord(100, 100), smallRecord(100, 100)}} {
				records := joined(ahead[:many], []string{wrong}, behind)
				t.Run(fmt.Sprint(what, many, len(behind)), func(t *testing.T) { checkRecall(t, records, x, l...) })
			}
		}
	}
}

// Records of each first byte, with a state's and a block's bytes behind.
func TestRecallOfEachKind(t *testing.T) {
	state, b := stateRecord(9, 8), smallRecord(9, 9)
	for kind := range 256 {
		first := string([]byte{byte(kind)})
		want, blocks := views(0, 0), []api.Block(nil)
		if first == "S" {
			want = views(9, 8)
		}
		checkRecall(t, []string{first + state[1:]}, want)
		if first == "B" {
			blocks = []api.Block{small(9, 9)}
		}
		checkRecall(t, []string{first + b[1:]}, views(0, 0), blocks...)
		checkRecall(t, []string{first}, views(0, 0))
		checkRecall(t, []string{first, state, b}, views(0, 0))
		checkRecall(t, []string{state, first, b}, views(9, 8))
	}
}

// Too few bytes of whatever number, and one too many of whatever kind.
func TestRecallOfOtherLengths(t *testing.T) {
	ahead := []string{stateRecord(3, 2), smallRecord(3, 3)}
	for _, r := range []string{stateRecord(9, 8), stateRecord(0, 0), smallRecord(9, 9), store.BlockRecord(middle()), store.BlockRecord(greatestBlock())} {
		for many := range len(r) {
			checkRecall(t, joined(ahead, []string{r[:many], stateRecord(100, 100)}), views(3, 2), small(3, 3))
			if many > 0 {
				checkRecall(t, joined(ahead, []string{r + r[:many]}), views(3, 2), small(3, 3))
			}
		}
		for x := range 256 {
			checkRecall(t, joined(ahead, []string{r + string([]byte{byte(x)})}), views(3, 2), small(3, 3))
		}
		checkRecall(t, joined(ahead, []string{r + strings.Repeat("\x00", 5000)}), views(3, 2), small(3, 3))
	}
}

// Views at and above the last one.
func TestRecallOfLastViews(t *testing.T) {
	for _, over := range []uint32{api.MaxView + 1, api.MaxView + 2, 1 << 20, 1 << 24, 1<<31 - 1, 1 << 31, 1<<31 + 5, 1<<32 - 1} {
		checkRecall(t, []string{stateRecord(1, 1), stateRecord(over, 2), stateRecord(3, 3)}, views(1, 1))
		checkRecall(t, []string{stateRecord(1, 1), stateRecord(2, over), stateRecord(3, 3)}, views(1, 1))
		checkRecall(t, []string{stateRecord(1, 1), stateRecord(over, over), stateRecord(3, 3)}, views(1, 1))
	}
	checkRecall(t, []string{stateRecord(1, 1), stateRecord(api.MaxView, 2), stateRecord(3, 3)}, views(api.MaxView, 3))
	checkRecall(t, []string{stateRecord(1, 1), stateRecord(2, api.MaxView), stateRecord(3, 3)}, views(3, api.MaxView))
}

// What is handed in is left as it is, its spare room too.
func TestRecallLeavesWhatIsHandedIn(t *testing.T) {
	room := []string{smallRecord(3, 3), stateRecord(3, 2), "X", stateRecord(9, 9), "spare", "room"}
	was := slices.Clone(room)
	for many := range len(room) + 1 {
		store.Recall(room[:many])
		if !slices.Equal(room, was) {
			t.Fatalf("%q", room)
		}
	}
}
