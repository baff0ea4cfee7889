// Package blake is layer 1, BLAKE2s: see shared/doc/01-blake.md.
package blake

import (
	"math/bits"

	"comitia/api"
)

const (
	blockSize = 64
	maxKey    = 32
	// What the first word is begun with beside the key's length: 32 bytes of
	// digest, one leaf, one level.
	shape = 0x01010020
)

// start is what the eight words are begun with.
var start = [8]uint32{
	0x6a09e667, 0xbb67ae85, 0x3c6ef372, 0xa54ff53a,
	0x510e527f, 0x9b05688c, 0x1f83d9ab, 0x5be0cd19,
}

// rows tells for each round which of the block's words each mix takes.
var rows = [10][16]uint8{
	{0, 1, 2, 3, 4, 5, 6, 7, 8, 9, 10, 11, 12, 13, 14, 15},
	{14, 10, 4, 8, 9, 15, 13, 6, 1, 12, 0, 2, 11, 7, 5, 3},
	{11, 8, 12, 0, 5, 2, 15, 13, 10, 14, 3, 6, 7, 1, 9, 4},
	{7, 9, 3, 1, 13, 12, 11, 14, 2, 6, 5, 10, 4, 0, 15, 8},
	{9, 0, 5, 7, 2, 4, 10, 15, 14, 1, 11, 12, 6, 8, 3, 13},
	{2, 12, 6, 10, 0, 11, 8, 3, 4, 13, 7, 5, 15, 14, 1, 9},
	{12, 5, 1, 15, 14, 13, 4, 10, 0, 7, 6, 3, 9, 2, 8, 11},
	{13, 11, 7, 14, 12, 1, 3, 9, 5, 0, 15, 4, 8, 6, 2, 10},
	{6, 15, 14, 9, 11, 3, 0, 8, 12, 2, 13, 7, 1, 4, 10, 5},
	{10, 2, 8, 4, 7, 6, 1, 5, 15, 11, 9, 14, 3, 12, 13, 0},
}

// places tells which of the sixteen words each mix of a round works on.
var places = [8][4]uint8{
	{0, 4, 8, 12}, {1, 5, 9, 13}, {2, 6, 10, 14}, {3, 7, 11, 15},
	{0, 5, 10, 15}, {1, 6, 11, 12}, {2, 7, 8, 13}, {3, 4, 9, 14},
}

// Digest takes bytes part by part. New makes one.
type Digest struct {
	words [8]uint32
	// block is the block that is being filled; behind its filled bytes stand
	// noughts, so that it is fit to be the last one at any time.
	block  [blockSize]byte
	filled int
	// before is how many bytes the blocks ahead of this one had.
	before uint64
}

// Sum is the digest of b without a key.
func Sum(b string) api.Hash {
	return digest("", b)
}

// Keyed is the digest of b with a key of at most 32 bytes.
func Keyed(key, b string) (api.Hash, api.Errno) {
	if len(key) > maxKey {
		return "", api.ErrArg
	}
	return digest(key, b), api.OK
}

// Tag is the beginning of the digest with a key, "" of a key that is too long.
func Tag(key, b string) string {
	h, e := Keyed(key, b)
	if e != api.OK {
		return ""
	}
	return h[:api.TagSize]
}

// New begins a digest with a key, of which the first 32 bytes count.
func New(key string) *Digest {
	if len(key) > maxKey {
		key = key[:maxKey]
	}
	d := &Digest{words: start}
	d.words[0] ^= shape ^ uint32(len(key))<<8
	if len(key) > 0 {
		copy(d.block[:], key)
		d.filled = blockSize
	}
	return d
}

// Write takes b behind all that was written.
func (d *Digest) Write(b string) {
	for len(b) > 0 {
		// A full block waits for a byte behind it, since the last block is
		// taken in otherwise than the others.
		if d.filled == blockSize {
			d.next()
		}
		n := copy(d.block[d.filled:], b)
		d.filled += n
		b = b[n:]
	}
}

// Sum is the digest of all that was written; more may be written afterwards.
func (d *Digest) Sum() api.Hash {
	words := mixed(d.words, d.block, d.before+uint64(d.filled), true)
	var out [api.HashSize]byte
	for i := range out {
		out[i] = byte(words[i/4] >> (8 * (i % 4)))
	}
	return string(out[:])
}

func digest(key, b string) api.Hash {
	d := New(key)
	d.Write(b)
	return d.Sum()
}

// next takes the full block in and begins an empty one.
func (d *Digest) next() {
	d.before += blockSize
	d.words = mixed(d.words, d.block, d.before, false)
	d.block = [blockSize]byte{}
	d.filled = 0
}

// mixed is what the eight words become by a block, with which there are so
// many bytes in all.
func mixed(words [8]uint32, block [blockSize]byte, bytes uint64, last bool) [8]uint32 {
	var v [16]uint32
	for i := range words {
		v[i] = words[i]
		v[8+i] = start[i]
	}
	v[12] ^= uint32(bytes)
	v[13] ^= uint32(bytes >> 32)
	if last {
		v[14] ^= 0xffffffff
	}
	m := wordsOf(block)
	for r := range rows {
		for i := range places {
			mix(&v, i, m[rows[r][2*i]], m[rows[r][2*i+1]])
		}
	}
	for i := range words {
		words[i] ^= v[i] ^ v[8+i]
	}
	return words
}

// wordsOf reads a block's words, the lowest byte first.
func wordsOf(block [blockSize]byte) [16]uint32 {
	var m [16]uint32
	for i := range block {
		m[i/4] |= uint32(block[i]) << (8 * (i % 4))
	}
	return m
}

// mix is a round's i-th mix, with two words of the block.
func mix(v *[16]uint32, i int, x, y uint32) {
	a, b, c, d := places[i][0], places[i][1], places[i][2], places[i][3]
	v[a] += v[b] + x
	v[d] = bits.RotateLeft32(v[d]^v[a], -16)
	v[c] += v[d]
	v[b] = bits.RotateLeft32(v[b]^v[c], -12)
	v[a] += v[b] + y
	v[d] = bits.RotateLeft32(v[d]^v[a], -8)
	v[c] += v[d]
	v[b] = bits.RotateLeft32(v[b]^v[c], -7)
}
