package timer_test

import (
	"fmt"
	"math/rand/v2"
	"testing"

	"comitia/api"
	"comitia/timer"
)

const (
	greatest = 1<<63 - 1
	least    = -1 << 63
)

// The chapter's example.
func Example() {
	t := timer.New(1)
	for range 4 {
		fmt.Println(t.View(), t.Left())
		for !t.Tick() {
		}
	}
	// Output:
	// 1 4
	// 2 8
	// 3 16
	// 4 16
}

func checkSpan(t *testing.T, fails, want int) {
	t.Helper()
	if got := timer.Span(fails); got != want {
		t.Errorf("Span(%d) is %d, not %d", fails, got, want)
	}
}

// None failed, and each number up to where the limit stands.
func TestSpan(t *testing.T) {
	for fails, want := range []int{4, 8, 16, 16, 16, 16} {
		checkSpan(t, fails, want)
	}
}

// Below 0 is as 0, however far.
func TestSpanBelowZero(t *testing.T) {
	for _, fails := range []int{-1, -2, -3, -4, -61, -62, -63, -64, -65, -1 << 31, -1<<32 + 1, -1<<32 + 2, least + 1, least} {
		checkSpan(t, fails, 4)
	}
}

// So many doublings as would shift all bits out, or come round to few ones:
// the limit.
func TestSpanOfMany(t *testing.T) {
	for fails := 2; fails < 5000; fails++ {
		checkSpan(t, fails, 16)
	}
	for _, bits := range []int{8, 16, 31, 32, 62} {
		for more := -3; more <= 3; more++ {
			checkSpan(t, 1<<bits+more, 16)
		}
	}
	for less := range 70 {
		checkSpan(t, greatest-less, 16)
	}
	checkSpan(t, api.MaxView, 16)
	checkSpan(t, api.MaxView+1, 16)
}

// plainSpan doubles step by step, as long as that is below the limit.
func plainSpan(fails int) int {
	span := 4
	for i := 0; i < fails; i++ {
		span *= 2
		if span > 4*4 {
			return 4 * 4
		}
	}
	return span
}

func TestWhateverSpan(t *testing.T) {
	r := rand.New(rand.NewPCG(15, 1))
	for fails := -300; fails <= 300; fails++ {
		checkSpan(t, fails, plainSpan(fails))
	}
	for range 10000 {
		fails := int(r.Uint64()) >> r.IntN(64)
		checkSpan(t, fails, plainSpan(fails))
	}
}
