package blake_test

import (
	"encoding/hex"
	"fmt"
	"strings"
	"testing"

	"comitia/api"
	"comitia/blake"
)

// data is n bytes of a fixed pattern, the one that the digests below are of.
func data(n int) string {
	b := make([]byte, n)
	for i := range b {
		b[i] = byte(7*i + 3)
	}
	return string(b)
}

func check(t *testing.T, what string, got api.Hash, want string) {
	t.Helper()
	if x := hex.EncodeToString([]byte(got)); x != want {
		t.Errorf("%s: %s, not %s", what, x, want)
	}
}

// The digests in this file were worked out by another program's BLAKE2s.

func TestSum(t *testing.T) {
	check(t, "abc", blake.Sum("abc"), "508c5e8c327c14e2e1a72ba34eeb452f37458b209ed63a294d999b4c86675982")
	for n, want := range map[int]string{
		0:       "69217a3079908094e11121d042354a7c1f55b6482ca1a51e1b250dfd1ed0eef9",
		1:       "a28ac19d6bcbe2cd1d7de183485768d598e996b07889b9b11f418cb1b4a4fb0d",
		63:      "de27df0e375d83c49f1af9ca8270f9f2fe7b70bf800fc01672db0e9746021ebf",
		64:      "5377e4ff957bda4d4535f4879876b71a61056c4cec31e78397c66ec47a86a130",
		65:      "19b1b26fba093f4a670d8913e1b71cbb2916dfa701018cc6b05785c966593374",
		127:     "6846f99493436241d0a6f289c9a911b1d0f4860db8f2b5df5295ffd37d03a3c4",
		128:     "83470c75afa23d90cd7659906e4b47daa278131fbb225241dd37a40fd5355ac7",
		129:     "26fd8892ab0a5f12d4acbff1efd7dcd92b99e2d377f888f07e3cb81b232b11cf",
		1000:    "02a016193469710efadf8fb005ca19b509331cb847df5598cc0794bded669681",
		1000000: "648b08c667f9fdb531086a9b02e3e074562c0477f4ef1d4079eaa6045088e8a4",
	} {
		check(t, fmt.Sprint("bytes ", n), blake.Sum(data(n)), want)
	}
}

func TestKeyed(t *testing.T) {
	for _, c := range []struct {
		key, n int
		want   string
	}{
		{0, 0, "69217a3079908094e11121d042354a7c1f55b6482ca1a51e1b250dfd1ed0eef9"},
		{0, 64, "5377e4ff957bda4d4535f4879876b71a61056c4cec31e78397c66ec47a86a130"},
		{1, 0, "9f69d84855b7b54dd7fe070f6a9c8d8bbbc454f422fda31b6ccf8d12333e4256"},
		{1, 1, "ed7b6f5334c1ff436de0fb658526a48024392761fef598aa59bb54da4b6998a2"},
		{1, 63, "e9fce6f7cdb241accbdf382dc531e9895bb06576d9630027255eec3d20a29821"},
		{1, 64, "b9fc76e4eac4fca3b3ff1408ca40ccd25178f159d6945641dc20f052e775c6c4"},
		{1, 65, "c9c1684048238ad744aafc01188f1e40beaf19501746e83a11a08c7298f522b2"},
		{1, 128, "2649dd0ee2a7c70ebf60530dc9954d6e1d7ae98574ad9cb9dc1417557fe6ef7d"},
		{31, 0, "41c607359be28fc7527388d4c7ba8dab377d919397906d2fa7099be88e633b5d"},
		{32, 0, "ded70e2a58ae08df61cdd4783126815e35b117de79f16e70f94a87a7f231aa00"},
		{32, 1, "3be4f9198e32124866a19782d74cd97da451294ae3f378f9b166c9b398e0cd89"},
		{32, 63, "dde581dbf11d976a7b70c08aa809032d0c3c43b5e85dc92db7867ff36859f244"},
		{32, 64, "cc1c697c0b4120c7b50158e43a8c8e3ebd3688852fbe1c519830df96654942da"},
		{32, 65, "02ccdc872281c7da6abad3ca6c315aba1171c998acfa9ef66f6d17ab36dae68f"},
		{32, 128, "dca248a7c3c3729f9f22d3f250a8082478adb6cf45d741b3ed8461f1fa40b76e"},
	} {
		h, e := blake.Keyed(data(c.key), data(c.n))
		if e != api.OK {
			t.Error(c.key, c.n, e)
		}
		check(t, fmt.Sprint("key ", c.key, " bytes ", c.n), h, c.want)
	}
}

// All lengths of keys, with all lengths of bytes up to behind the fourth block.
func TestAllLengths(t *testing.T) {
	all := blake.New("")
	for key := range 33 {
		for n := range 261 {
			h, e := blake.Keyed(data(key), data(n))
			if e != api.OK || len(h) != api.HashSize {
				t.Fatal(key, n, e, len(h))
			}
			all.Write(h)
		}
	}
	check(t, "all", all.Sum(), "409b2ceb976d57009cf98f4499b3f090b15a843fd706b8bcacc7843889ad4480")
}

func TestKeyTooLong(t *testing.T) {
	for _, n := range []int{33, 34, 64, 65, 1000} {
		for _, b := range []string{"", "abc", data(64)} {
			if h, e := blake.Keyed(data(n), b); h != "" || e != api.ErrArg {
				t.Errorf("key %d: %x, %d", n, h, e)
			}
			if x := blake.Tag(data(n), b); x != "" {
				t.Errorf("key %d: tag %x", n, x)
			}
			want, _ := blake.Keyed(data(n)[:32], b)
			if d := written(data(n), b); d.Sum() != want {
				t.Errorf("key %d: New isn't of the first 32 bytes", n)
			}
		}
	}
}

func TestTag(t *testing.T) {
	for _, key := range []int{0, 1, 31, 32} {
		for _, n := range []int{0, 1, 63, 64, 65, 128} {
			h, _ := blake.Keyed(data(key), data(n))
			if x := blake.Tag(data(key), data(n)); len(x) != api.TagSize || !strings.HasPrefix(h, x) {
				t.Errorf("key %d bytes %d: %x", key, n, x)
			}
		}
	}
}

func TestWhatTellsDigestsApart(t *testing.T) {
	seen := map[api.Hash]string{}
	for what, d := range map[string]*blake.Digest{
		"nothing":               blake.New(""),
		"a nought":              written("", "\x00"),
		"a block of noughts":    written("", strings.Repeat("\x00", 64)),
		"a nought as key":       blake.New("\x00"),
		"two noughts as key":    blake.New("\x00\x00"),
		"a key":                 blake.New("a"),
		"a key's block, no key": written("", "a"+strings.Repeat("\x00", 63)),
	} {
		if other, ok := seen[d.Sum()]; ok {
			t.Error(what, "is as", other)
		}
		seen[d.Sum()] = what
	}
}

func TestNothingWritten(t *testing.T) {
	for _, key := range []int{0, 1, 32} {
		want, _ := blake.Keyed(data(key), "")
		if blake.New(data(key)).Sum() != want {
			t.Error("key", key)
		}
		if written(data(key), "", "", "").Sum() != want {
			t.Error("key", key, "empty parts")
		}
	}
}

// written is a digest to which the parts were written.
func written(key string, parts ...string) *blake.Digest {
	d := blake.New(key)
	for _, p := range parts {
		d.Write(p)
	}
	return d
}

func TestTwoParts(t *testing.T) {
	for _, key := range []string{"", "k", data(32)} {
		for n := range 200 {
			want, _ := blake.Keyed(key, data(n))
			for cut := range n + 1 {
				if written(key, data(n)[:cut], data(n)[cut:]).Sum() != want {
					t.Fatal(len(key), n, cut)
				}
			}
		}
	}
}

func TestEqualParts(t *testing.T) {
	b := data(520)
	for _, key := range []string{"", "k", data(32)} {
		want, _ := blake.Keyed(key, b)
		for size := 1; size <= len(b); size++ {
			d := blake.New(key)
			for at := 0; at < len(b); at += size {
				d.Write(b[at:min(at+size, len(b))])
				d.Write("")
			}
			if d.Sum() != want {
				t.Fatal(len(key), size)
			}
		}
	}
}

// Sum, asked twice behind each part, leaves the digest as it is.
func TestSumBetween(t *testing.T) {
	b := data(260)
	for _, key := range []string{"", "k", data(32)} {
		for _, size := range []int{1, 7, 32, 63, 64, 65, 128} {
			d := blake.New(key)
			for at := 0; at < len(b); at += size {
				end := min(at+size, len(b))
				d.Write(b[at:end])
				want, _ := blake.Keyed(key, b[:end])
				if d.Sum() != want || d.Sum() != want {
					t.Fatal(len(key), size, at)
				}
			}
		}
	}
}

func TestDigestsDoNotHangTogether(t *testing.T) {
	a, b := blake.New("key"), blake.New("key")
	a.Write(data(70))
	b.Write("x")
	b.Sum()
	a.Write(data(70))
	want, _ := blake.Keyed("key", data(70)+data(70))
	if a.Sum() != want {
		t.Error("one changed the other")
	}
}
