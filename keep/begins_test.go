package keep_test

import (
	"slices"
	"testing"

	"comitia/api"
	"comitia/block"
	"comitia/keep"
)

func TestBegins(t *testing.T) {
	type list = []api.Hash
	for _, x := range []struct {
		what string
		a, b list
		want bool
	}{
		{"both empty", nil, nil, true},
		{"both empty", nil, list{}, true},
		{"both empty", list{}, nil, true},
		{"both empty", list{}, list{}, true},
		{"empty and one", nil, list{"a"}, true},
		{"empty and more", list{}, list{"a", "b", "c"}, true},
		{"one and empty", list{"a"}, nil, false},
		{"more and empty", list{"a", "b"}, list{}, false},
		{"one of no text and empty", list{""}, nil, false},
		{"alike", list{"a", "b", "c"}, list{"a", "b", "c"}, true},
		{"shorter and longer", list{"a", "b"}, list{"a", "b", "c"}, true},
		{"longer and shorter", list{"a", "b", "c"}, list{"a", "b"}, false},
		{"longer by no text", list{"a", "b", ""}, list{"a", "b"}, false},
		{"other first", list{"x", "b", "c"}, list{"a", "b", "c"}, false},
		{"other in the midst", list{"a", "x", "c"}, list{"a", "b", "c"}, false},
		{"other last", list{"a", "b", "x"}, list{"a", "b", "c"}, false},
		{"shorter, other first", list{"x", "b"}, list{"a", "b", "c"}, false},
		{"shorter, other last", list{"a", "x"}, list{"a", "b", "c"}, false},
		{"an end", list{"b", "c"}, list{"a", "b", "c"}, false},
		{"the midst", list{"b"}, list{"a", "b", "c"}, false},
		{"with one left out", list{"a", "c"}, list{"a", "b", "c"}, false},
		{"swapped", list{"b", "a"}, list{"a", "b"}, false},
		{"the same text together", list{"ab"}, list{"a", "b"}, false},
		{"a text's beginning", list{"a"}, list{"ab"}, false},
		{"one twice", list{"a", "a"}, list{"a"}, false},
		{"one twice and thrice", list{"a", "a"}, list{"a", "a", "a"}, true},
	} {
		if got := keep.Begins(x.a, x.b); got != x.want {
			t.Errorf("%s: %q, %q: %v", x.what, x.a, x.b, got)
		}
	}
}

// lists are all lists of at most so many of these.
func lists[T any](many int, of ...T) [][]T {
	all := [][]T{nil}
	from := 0
	for range many {
		to := len(all)
		for _, l := range all[from:to] {
			for _, x := range of {
				all = append(all, append(slices.Clone(l), x))
			}
		}
		from = to
	}
	return all
}

// A beginning of a list is what is left when some are cut off its end.
func TestBeginsOfAllShortLists(t *testing.T) {
	all := lists(4, "", "a", "b")
	for _, b := range all {
		for _, a := range all {
			want := false
			for n := range len(b) + 1 {
				want = want || slices.Equal(a, b[:n])
			}
			if got := keep.Begins(a, b); got != want {
				t.Errorf("%q, %q: %v", a, b, got)
			}
		}
	}
}

// Of two chains one begins with the other one just if it was put behind it.
func TestBeginsOfChains(t *testing.T) {
	l := chain(5, 1)
	apart := chainOn(block.Digest(l[1]), 3, 3, 2)
	for n := range 6 {
		a := kept(t, l[:n]...)
		for m := range 6 {
			b := kept(t, l[:m]...)
			if got := keep.Begins(a.Digests(), b.Digests()); got != (n <= m) {
				t.Errorf("%d, %d: %v", n, m, got)
			}
		}
		b := kept(t, joined(l[:2], apart)...)
		if got := keep.Begins(a.Digests(), b.Digests()); got != (n <= 2) {
			t.Errorf("%d and another branch: %v", n, got)
		}
		if got := keep.Begins(b.Digests(), a.Digests()); got {
			t.Errorf("another branch and %d: %v", n, got)
		}
	}
}

// Both lists are left as they are, spare room and all.
func TestBeginsLeavesLists(t *testing.T) {
	a := append(make([]api.Hash, 0, 4), "a", "b")
	b := append(make([]api.Hash, 0, 6), "a", "b", "c")
	copy(a[:4], []api.Hash{"a", "b", "c", "d"})
	copy(b[:6], []api.Hash{"a", "b", "c", "d", "e", "f"})
	if !keep.Begins(a, b) || keep.Begins(b, a) || !keep.Begins(a, a) || !keep.Begins(a, b[:2]) || keep.Begins(b, b[:2]) {
		t.Error("begins")
	}
	if got := slices.Concat(a[:4], b[:6]); !slices.Equal(got, []api.Hash{"a", "b", "c", "d", "a", "b", "c", "d", "e", "f"}) {
		t.Errorf("%q", got)
	}
}
