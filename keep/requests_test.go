package keep_test

import (
	"math/rand/v2"
	"slices"
	"testing"

	"comitia/api"
	"comitia/block"
	"comitia/keep"
)

func request(client, seq int, body string) api.Request {
	return api.Request{Client: client, Seq: seq, Body: body}
}

// withBatches are blocks, one on the other, with these requests.
func withBatches(batches ...[]api.Request) []api.Block {
	var l []api.Block
	h := block.First()
	for i, batch := range batches {
		b := on(h, i+1, batch...)
		l, h = append(l, b), block.Digest(b)
	}
	return l
}

func TestRequests(t *testing.T) {
	type list = []api.Request
	one, again, other := request(1, 1, "x"), request(1, 1, "x"), request(1, 1, "y")
	for what, x := range map[string]struct {
		batches []list
		want    list
	}{
		"no blocks":                 {nil, nil},
		"no requests":               {[]list{nil, {}, nil}, nil},
		"one":                       {[]list{{one}}, list{one}},
		"one behind blocks of none": {[]list{nil, nil, {one}}, list{one}},
		"twice in one block":        {[]list{{one, again}}, list{one}},
		"twice in two":              {[]list{{one}, {again}}, list{one}},
		"twice, far apart":          {[]list{{one}, nil, {request(2, 1, "z")}, {request(1, 2, "w"), again}}, list{one, request(2, 1, "z"), request(1, 2, "w")}},
		"other body in one block":   {[]list{{one, other}}, list{one}},
		"other body in two":         {[]list{{one}, {other}}, list{one}},
		"the other one first":       {[]list{{other}, {one}}, list{other}},
		"thrice":                    {[]list{{other, one}, {one, other, again}}, list{other}},
		"no body first":             {[]list{{request(1, 1, "")}, {one}}, list{request(1, 1, "")}},
		"other Seqs":                {[]list{{request(1, 3, "x"), request(1, 1, "x")}, {request(1, 2, "x")}}, list{request(1, 3, "x"), request(1, 1, "x"), request(1, 2, "x")}},
		"other clients":             {[]list{{request(3, 1, "x"), request(0, 1, "x")}, {request(2, 1, "x"), request(1, 1, "x")}}, list{request(3, 1, "x"), request(0, 1, "x"), request(2, 1, "x"), request(1, 1, "x")}},
		"Client and Seq swapped":    {[]list{{request(1, 2, "x"), request(2, 1, "x")}}, list{request(1, 2, "x"), request(2, 1, "x")}},
		"the same sum":              {[]list{{request(1, 4, "x"), request(2, 3, "x"), request(3, 2, "x")}}, list{request(1, 4, "x"), request(2, 3, "x"), request(3, 2, "x")}},
		"the same digits":           {[]list{{request(1, 11, "x")}, {request(11, 1, "x")}}, list{request(1, 11, "x"), request(11, 1, "x")}},
		"great Seqs":                {[]list{{request(1, 1<<31-1, "x"), request(1, 1, "x")}, {request(1, 1<<31-1, "y")}}, list{request(1, 1<<31-1, "x"), request(1, 1, "x")}},
		"2^32 apart":                {[]list{{request(1, 1, "x"), request(1, 1+1<<32, "x"), request(1+1<<32, 1, "x")}}, list{request(1, 1, "x"), request(1, 1+1<<32, "x"), request(1+1<<32, 1, "x")}},
		"no client's":               {[]list{{request(-1, 0, "x"), request(0, 0, "x")}, {request(0, -1, "x"), request(-1, 0, "y")}}, list{request(-1, 0, "x"), request(0, 0, "x"), request(0, -1, "x")}},
	} {
		l := withBatches(x.batches...)
		k := kept(t, l...)
		if got := k.Requests(); !slices.Equal(got, x.want) {
			t.Errorf("%s: %v, not %v", what, got, x.want)
		}
		checkChain(t, k, l...)
	}
}

// No two clients and Seqs are taken for one.
func TestEachClientAndSeq(t *testing.T) {
	var batches [][]api.Request
	for client := -3; client < 13; client++ {
		var batch []api.Request
		for seq := -3; seq < 130; seq++ {
			batch = append(batch, request(client, seq, "x"))
		}
		batches = append(batches, batch)
	}
	want := slices.Concat(batches...)
	k := kept(t, withBatches(slices.Concat(batches, batches)...)...)
	if got := k.Requests(); !slices.Equal(got, want) {
		t.Errorf("%d, not %d", len(got), len(want))
	}
}

// Requests come as blocks are put, and the first ones stay.
func TestRequestsBehindEachPut(t *testing.T) {
	l := withBatches([]api.Request{request(1, 1, "a"), request(1, 2, "b")}, nil,
		[]api.Request{request(1, 2, "c"), request(2, 1, "d")}, []api.Request{request(2, 1, "e"), request(1, 1, "f"), request(0, 1, "g")})
	k := keep.New()
	for i, want := range []string{"ab", "ab", "abd", "abdg"} {
		put(t, k, api.OK, l[i])
		bodies := ""
		for _, r := range k.Requests() {
			bodies += r.Body
		}
		if bodies != want {
			t.Errorf("behind %d blocks %q, not %q", i+1, bodies, want)
		}
	}
}

// The requests of what was refused don't come, and don't stand in the way.
func TestRequestsOfRefused(t *testing.T) {
	l := withBatches([]api.Request{request(1, 1, "a")}, []api.Request{request(1, 2, "b")}, []api.Request{request(1, 3, "c")})
	k := kept(t, l[0])
	put(t, k, api.ErrOrder, l[1], l[1])
	put(t, k, api.ErrOrder, l[2])
	checkChain(t, k, l[0])
	b := on(block.Digest(l[0]), 9, request(1, 3, "d"), request(1, 2, "e"))
	put(t, k, api.OK, b)
	if got, want := k.Requests(), []api.Request{request(1, 1, "a"), request(1, 3, "d"), request(1, 2, "e")}; !slices.Equal(got, want) {
		t.Errorf("%v, not %v", got, want)
	}
}

// Requests at random, of few clients and Seqs, with bodies that tell them
// apart.
func TestRequestsAtRandom(t *testing.T) {
	r := rand.New(rand.NewPCG(11, 1))
	for range 300 {
		var batches [][]api.Request
		for range r.IntN(12) {
			var batch []api.Request
			for range r.IntN(5) {
				batch = append(batch, request(r.IntN(4), 1+r.IntN(6), string(rune('a'+r.IntN(26)))))
			}
			batches = append(batches, batch)
		}
		l := withBatches(batches...)
		checkChain(t, kept(t, l...), l...)
	}
}
