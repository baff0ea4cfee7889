package count_test

import (
	"slices"
	"testing"

	"comitia/count"
)

const (
	greatest = 1<<63 - 1
	least    = -1 << 63
)

// lists are all lists of at most size of these numbers, in all orders.
func lists(size int, of ...int) [][]int {
	all := [][]int{nil}
	for from := 0; size > 0; size-- {
		to := len(all)
		for _, l := range all[from:to] {
			for _, x := range of {
				all = append(all, append(slices.Clone(l), x))
			}
		}
		from = to
	}
	return all
}

// members are the nodes that a number names by its bits.
func members(bits int) []int {
	var l []int
	for node := range 20 {
		if bits>>node&1 == 1 {
			l = append(l, node)
		}
	}
	return l
}

// span is the numbers from a below b.
func span(a, b int) []int {
	var l []int
	for x := a; x < b; x++ {
		l = append(l, x)
	}
	return l
}

func checkSizes(t *testing.T, n, faults, quorum, weak int) {
	t.Helper()
	if f, q, w := count.Faults(n), count.Quorum(n), count.Weak(n); f != faults || q != quorum || w != weak {
		t.Error("of", n, "nodes:", f, q, w, "not", faults, quorum, weak)
	}
}

// The chapter's example: of four nodes one fault, three are a quorum, two a weak one.
func TestFourNodes(t *testing.T) {
	checkSizes(t, 4, 1, 3, 2)
}

func TestSizes(t *testing.T) {
	for i, faults := range []int{0, 0, 0, 1, 1, 1, 2, 2, 2, 3, 3, 3, 4, 4, 4, 5, 5, 5, 6, 6} {
		n := i + 1
		checkSizes(t, n, faults, n-faults, faults+1)
	}
	for i, quorum := range []int{1, 2, 3, 3, 4, 5, 5, 6, 7, 7, 8, 9, 9, 10, 11, 11, 12, 13, 13, 14} {
		checkSizes(t, i+1, i+1-quorum, quorum, i+2-quorum)
	}
}

func TestSizesAtTheEdges(t *testing.T) {
	for _, n := range []int{0, -1, -2, -3, -4, -7, -1 << 31, -1 << 32, least, least + 1, least + 2} {
		checkSizes(t, n, 0, 1, 1)
	}
	checkSizes(t, 1, 0, 1, 1)
	checkSizes(t, 3, 0, 3, 1)
	checkSizes(t, 1<<31, 715827882, 1431655766, 715827883)
	checkSizes(t, 1<<32, 1431655765, 2863311531, 1431655766)
	checkSizes(t, greatest-2, 3074457345618258601, 6148914691236517204, 3074457345618258602)
	checkSizes(t, greatest-1, 3074457345618258601, 6148914691236517205, 3074457345618258602)
	checkSizes(t, greatest, 3074457345618258602, 6148914691236517205, 3074457345618258603)
}

func TestDistinct(t *testing.T) {
	for _, c := range []struct {
		l       []int
		n, want int
	}{
		{nil, 4, 0},
		{[]int{}, 4, 0},
		{[]int{0}, 4, 1},
		{[]int{3}, 4, 1},
		{[]int{4}, 4, 0},
		{[]int{-1}, 4, 0},
		{[]int{-1, 0, 3, 4}, 4, 2},
		{[]int{0, 1, 2, 3}, 4, 4},
		{[]int{3, 2, 1, 0}, 4, 4},
		{[]int{2, 2, 2, 2}, 4, 1},
		{[]int{1, 2, 1, 2, 1}, 4, 2},
		{[]int{5, 5, -3, -3, 1}, 4, 1},
		{[]int{0, 1, 2, 3}, 1, 1},
		{[]int{0, 4, 8, 1 << 32, 1<<32 + 1}, 4, 1},
		{[]int{least, -1, 0, greatest - 1, greatest}, greatest, 2},
		{[]int{least, -1, 0, greatest - 1, greatest}, greatest - 1, 1},
	} {
		if got := count.Distinct(c.l, c.n); got != c.want {
			t.Error(c.l, "below", c.n, "has", got, "not", c.want)
		}
	}
}

// byHand is which numbers from 0 below n, of the few that the lists here have,
// are in all of these.
func byHand(n int, ls ...[]int) []int {
	var found []int
	for x := 0; x < n; x++ {
		in := func(l []int) bool { return slices.Contains(l, x) }
		if !slices.ContainsFunc(ls, func(l []int) bool { return !in(l) }) {
			found = append(found, x)
		}
	}
	return found
}

func TestDistinctOfAllLists(t *testing.T) {
	for _, l := range lists(5, -1, 0, 1, 2, 3, 4) {
		for n := -1; n <= 6; n++ {
			if got, want := count.Distinct(l, n), len(byHand(n, l)); got != want {
				t.Fatal(l, "below", n, "has", got, "not", want)
			}
		}
	}
}

// For all numbers of nodes, each node thrice, in three orders, and others beside them.
func TestDistinctOfAllNodes(t *testing.T) {
	for n := 1; n <= 20; n++ {
		all := span(0, n)
		l := append(span(-2, n+2), all...)
		slices.Reverse(all)
		l = append(l, all...)
		if count.Distinct(l, n) != n || count.Distinct(all, n) != n || count.Distinct(all[1:], n) != n-1 || count.Distinct(all, n-1) != n-1 {
			t.Error(n)
		}
	}
}

// Below a number that is below 1 there is none from 0 on.
func TestDistinctOfNoNodes(t *testing.T) {
	for _, n := range []int{0, -1, -2, -4, least} {
		for _, l := range [][]int{nil, {}, {0}, {-1}, {0, 0, 1, 2, 3}, {-3, -2, -1, 0}, {least, greatest, n, n - 1, n + 1}} {
			if got := count.Distinct(l, n); got != 0 {
				t.Error(l, "below", n, "has", got)
			}
		}
	}
}

func TestTop(t *testing.T) {
	for _, c := range []struct {
		l       []int
		k, want int
	}{
		{nil, 0, 0},
		{nil, 1, 0},
		{nil, -1, 0},
		{[]int{}, 1, 0},
		{[]int{5}, 0, 0},
		{[]int{5}, 1, 5},
		{[]int{5}, 2, 0},
		{[]int{5}, -1, 0},
		{[]int{5}, least, 0},
		{[]int{5}, greatest, 0},
		{[]int{5, 2, 9}, 1, 9},
		{[]int{5, 2, 9}, 2, 5},
		{[]int{5, 2, 9}, 3, 2},
		{[]int{5, 2, 9}, 4, 0},
		{[]int{5, 9, 2, 9, 5, 9}, 3, 9},
		{[]int{5, 9, 2, 9, 5, 9}, 4, 5},
		{[]int{5, 9, 2, 9, 5, 9}, 5, 5},
		{[]int{5, 9, 2, 9, 5, 9}, 6, 2},
		{[]int{5, 9, 2, 9, 5, 9}, 7, 0},
		{[]int{7, 7, 7}, 3, 7},
		{[]int{-4, -2, -3}, 1, -2},
		{[]int{-4, -2, -3}, 3, -4},
		{[]int{-4, -2, -3}, 4, 0},
		{[]int{-1, 0, 1}, 3, -1},
		{[]int{10, 9, 100, 2}, 2, 10},
		{[]int{0, greatest, least}, 1, greatest},
		{[]int{0, greatest, least}, 2, 0},
		{[]int{0, greatest, least}, 3, least},
	} {
		if got := count.Top(c.l, c.k); got != c.want {
			t.Error("of", c.l, c.k, "is", got, "not", c.want)
		}
	}
}

// above is how many numbers of a list are greater than x, and how many are at
// least x.
func above(l []int, x int) (greater, atLeast int) {
	for _, y := range l {
		if y > x {
			greater++
		}
		if y >= x {
			atLeast++
		}
	}
	return greater, atLeast
}

func TestTopOfAllLists(t *testing.T) {
	for _, l := range lists(5, -2, -1, 3, 4, 5) {
		for k := -1; k <= 7; k++ {
			got := count.Top(l, k)
			if k < 1 || k > len(l) {
				if got != 0 {
					t.Fatal("of", l, k, "is", got)
				}
				continue
			}
			if greater, atLeast := above(l, got); greater >= k || atLeast < k || !slices.Contains(l, got) {
				t.Fatal("of", l, k, "is", got)
			}
		}
	}
}

// A longer list, in which the numbers 0 to 99 stand twice each, out of order.
func TestTopOfMany(t *testing.T) {
	var l []int
	for i := range 200 {
		l = append(l, i*37%100)
	}
	for k := 1; k <= 200; k++ {
		if got := count.Top(l, k); got != 99-(k-1)/2 {
			t.Error(k, "is", got)
		}
	}
	if count.Top(l, 201) != 0 {
		t.Error("one more than there are")
	}
}

// Leaders of views one behind the other come in turn.
func TestLeaders(t *testing.T) {
	for n := 1; n <= 20; n++ {
		next := 0
		for view := range 3*n + 2 {
			if got := count.Leader(view, n); got != next {
				t.Error("view", view, "of", n, "is led by", got, "not", next)
			}
			if next++; next == n {
				next = 0
			}
		}
	}
}

func TestLeader(t *testing.T) {
	for _, c := range []struct{ view, n, want int }{
		{0, 1, 0},
		{0, 4, 0},
		{1, 4, 1},
		{9, 4, 1},
		{-1, 4, 0},
		{-2, 4, 0},
		{-5, 7, 0},
		{least, 7, 0},
		{5, 0, 0},
		{5, 1, 0},
		{5, -1, 0},
		{5, -4, 0},
		{5, -7, 0},
		{5, least, 0},
		{-1, 0, 0},
		{-5, -3, 0},
		{least, -1, 0},
		{0, 0, 0},
		{1000000, 7, 1},
		{999999, 7, 0},
		{1<<32 + 3, 5, 4},
		{greatest, 4, 3},
		{greatest, 10, 7},
		{greatest, greatest, 0},
		{greatest - 1, greatest, greatest - 1},
		{5, greatest, 5},
	} {
		if got := count.Leader(c.view, c.n); got != c.want {
			t.Error("view", c.view, "of", c.n, "is led by", got, "not", c.want)
		}
	}
}

func TestShared(t *testing.T) {
	for _, c := range []struct {
		a, b []int
		n    int
		want []int
	}{
		{nil, nil, 4, nil},
		{[]int{}, []int{0, 1}, 4, nil},
		{[]int{0, 1}, nil, 4, nil},
		{[]int{0, 1}, []int{2, 3}, 4, nil},
		{[]int{3, 1, 2, 3}, []int{0, 3, 2}, 4, []int{2, 3}},
		{[]int{3, 2, 1, 0}, []int{3, 2, 1, 0}, 4, []int{0, 1, 2, 3}},
		{[]int{2, 2, 2}, []int{2, 2}, 4, []int{2}},
		{[]int{1, 1}, []int{2, 2}, 4, nil},
		{[]int{-1, 0, 3, 4}, []int{4, 3, 0, -1}, 4, []int{0, 3}},
		{[]int{-1, 4}, []int{-1, 4}, 4, nil},
		{[]int{0, 1, 2}, []int{2, 1, 0}, 1, []int{0}},
		{[]int{10, 9, 2, 1}, []int{1, 2, 9, 10}, 20, []int{1, 2, 9, 10}},
		{[]int{greatest - 1, greatest, -1, 7, least}, []int{least, 7, -1, greatest, greatest - 1}, greatest, []int{7, greatest - 1}},
		{[]int{0, 1}, []int{1 << 32, 1<<32 + 1}, greatest, nil},
	} {
		if got := count.Shared(c.a, c.b, c.n); !slices.Equal(got, c.want) {
			t.Error(c.a, "and", c.b, "below", c.n, "share", got, "not", c.want)
		}
	}
}

func TestSharedOfAllLists(t *testing.T) {
	all := lists(3, -1, 0, 1, 2, 3, 4)
	for _, a := range all {
		for _, b := range all {
			if got, want := count.Shared(a, b, 4), byHand(4, a, b); !slices.Equal(got, want) {
				t.Fatal(a, "and", b, "share", got, "not", want)
			}
		}
	}
	for _, a := range all {
		b := []int{4, 3, 1, 0, -1, 3}
		for n := -1; n <= 6; n++ {
			if got, want := count.Shared(a, b, n), byHand(n, a, b); !slices.Equal(got, want) {
				t.Fatal(a, "and", b, "below", n, "share", got, "not", want)
			}
		}
	}
}

func TestSharedOfNoNodes(t *testing.T) {
	for _, n := range []int{0, -1, -2, -4, least} {
		for _, l := range [][]int{nil, {}, {0}, {-1}, {0, 0, 1, 2, 3}, {-3, -2, -1, 0}, {least, greatest, n, n - 1, n + 1}} {
			if got := count.Shared(l, l, n); len(got) != 0 {
				t.Error(l, "below", n, "shares", got)
			}
		}
	}
}

// Many numbers come in their order, each time.
func TestSharedOfMany(t *testing.T) {
	a, b, want := span(-10, 500), span(300, 700), span(300, 450)
	slices.Reverse(a)
	for range 20 {
		if got := count.Shared(append(a, a...), b, 450); !slices.Equal(got, want) {
			t.Fatal(got)
		}
	}
}

// checkQuorums holds two lists that have a quorum each against P4.2.
func checkQuorums(t *testing.T, a, b []int, n int) {
	t.Helper()
	if count.Distinct(a, n) < count.Quorum(n) || count.Distinct(b, n) < count.Quorum(n) {
		t.Fatal("no quorums of", n, ":", a, b)
	}
	if l := count.Shared(a, b, n); len(l) <= count.Faults(n) {
		t.Fatal("of", n, "nodes", a, "and", b, "share", l)
	}
}

// P4.2, for as many nodes as there may be: all that are quorums or greater,
// with all others.
func TestAllQuorumsShare(t *testing.T) {
	for n := 1; n <= 7; n++ {
		var quorums [][]int
		for bits := range 1 << n {
			if l := members(bits); count.Distinct(l, n) >= count.Quorum(n) {
				quorums = append(quorums, l)
			}
		}
		for _, a := range quorums {
			for _, b := range quorums {
				checkQuorums(t, a, b, n)
			}
		}
	}
}

// P4.2, for all numbers of nodes: the first nodes that are just a quorum, with
// all quorums of that size; which nodes the first ones are makes no odds.
func TestQuorumsShare(t *testing.T) {
	for n := 1; n <= 20; n++ {
		q := count.Quorum(n)
		a := span(0, q)
		for bits := range 1 << n {
			if b := members(bits); len(b) == q {
				checkQuorums(t, a, b, n)
			}
		}
	}
}

// P4.2, where the lists have others, too, and each node more than once; the
// two that share the fewest share just so many.
func TestQuorumsThatShareFewest(t *testing.T) {
	for n := 1; n <= 20; n++ {
		q := count.Quorum(n)
		a := slices.Concat([]int{-1, n, n + 1}, span(0, q), span(0, q))
		b := slices.Concat(span(n-q, n), []int{n, -1, n + 1}, span(n-q, n))
		checkQuorums(t, a, b, n)
		if got := count.Shared(a, b, n); !slices.Equal(got, span(n-q, q)) {
			t.Error("of", n, "nodes", got)
		}
	}
}

// The faults are fewer than a third, and as many as can be; a quorum can be had
// without them, a weak one not of them alone.
func TestSizesFollow(t *testing.T) {
	for n := 1; n <= 20; n++ {
		f, q, w := count.Faults(n), count.Quorum(n), count.Weak(n)
		if 3*f >= n || 3*(f+1) < n || q+f != n || w != f+1 || 2*q-n < w {
			t.Error(n, f, q, w)
		}
	}
}

// guarded is a list with room behind it that must stay as it is.
func guarded(l ...int) []int {
	return slices.Concat(l, []int{77, 78, 79})[:len(l)]
}

// R5: what is handed in is left as it is, its spare room too.
func TestNothingIsChanged(t *testing.T) {
	was := []int{3, 1, -1, 9, 3, 0, 4, 2, 1}
	a, b := guarded(was...), guarded(was...)
	for n := -1; n <= 10; n++ {
		count.Distinct(a, n)
		count.Top(a, n)
		count.Shared(a, b, n)
		count.Shared(a, a, n)
	}
	for _, l := range [][]int{a, b} {
		if whole := l[:len(was)+3]; !slices.Equal(whole, append(slices.Clone(was), 77, 78, 79)) {
			t.Error(whole)
		}
	}
}

// R5: what is answered is new memory, with nothing of the arguments in it, and
// nothing of what was answered before.
func TestAnswersAreNew(t *testing.T) {
	a, b := guarded(0, 1, 2, 3), guarded(0, 1, 2, 3)
	first, second := count.Shared(a, b, 4), count.Shared(a, b, 4)
	for _, l := range [][]int{first, second, count.Shared(a, a, 4)} {
		room := l[:cap(l)]
		for i := range room {
			room[i] = -5
		}
		if !slices.Equal(a[:7], []int{0, 1, 2, 3, 77, 78, 79}) || !slices.Equal(b[:7], a[:7]) {
			t.Error("an answer has memory of an argument:", a[:7], b[:7])
		}
	}
	third := count.Shared(a, b, 4)
	clear(a)
	clear(b)
	if !slices.Equal(third, []int{0, 1, 2, 3}) {
		t.Error("an argument has memory of an answer:", third)
	}
	fourth, fifth := count.Shared(span(0, 4), span(0, 4), 4), count.Shared(span(0, 4), span(0, 4), 4)
	clear(fourth[:cap(fourth)])
	if !slices.Equal(fifth, span(0, 4)) {
		t.Error("one answer has memory of another:", fifth)
	}
}

// What one call was handed is gone when the next one comes.
func TestNothingIsKept(t *testing.T) {
	count.Distinct([]int{0, 1, 2, 3}, 4)
	count.Shared([]int{0, 1, 2, 3}, []int{0, 1, 2, 3}, 4)
	count.Top([]int{9, 9, 9, 9}, 1)
	if count.Distinct([]int{2}, 4) != 1 || !slices.Equal(count.Shared([]int{2}, []int{2}, 4), []int{2}) || count.Top([]int{1}, 2) != 0 {
		t.Error("a call answers what another was asked")
	}
}
