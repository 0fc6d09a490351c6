// Package sha is layer 1: see shared/doc/01-sha.md.
package sha

import (
	"math/bits"
	"strings"

	"pontoon/api"
)

const blockBytes = 64

const hexDigits = "0123456789abcdef"

var firstWords = [8]uint32{
	0x6a09e667, 0xbb67ae85, 0x3c6ef372, 0xa54ff53a, 0x510e527f, 0x9b05688c, 0x1f83d9ab, 0x5be0cd19,
}

var roundWords = [64]uint32{
	0x428a2f98, 0x71374491, 0xb5c0fbcf, 0xe9b5dba5, 0x3956c25b, 0x59f111f1, 0x923f82a4, 0xab1c5ed5,
	0xd807aa98, 0x12835b01, 0x243185be, 0x550c7dc3, 0x72be5d74, 0x80deb1fe, 0x9bdc06a7, 0xc19bf174,
	0xe49b69c1, 0xefbe4786, 0x0fc19dc6, 0x240ca1cc, 0x2de92c6f, 0x4a7484aa, 0x5cb0a9dc, 0x76f988da,
	0x983e5152, 0xa831c66d, 0xb00327c8, 0xbf597fc7, 0xc6e00bf3, 0xd5a79147, 0x06ca6351, 0x14292967,
	0x27b70a85, 0x2e1b2138, 0x4d2c6dfc, 0x53380d13, 0x650a7354, 0x766a0abb, 0x81c2c92e, 0x92722c85,
	0xa2bfe8a1, 0xa81a664b, 0xc24b8b70, 0xc76c51a3, 0xd192e819, 0xd6990624, 0xf40e3585, 0x106aa070,
	0x19a4c116, 0x1e376c08, 0x2748774c, 0x34b0bcb5, 0x391c0cb3, 0x4ed8aa4a, 0x5b9cca4f, 0x682e6ff3,
	0x748f82ee, 0x78a5636f, 0x84c87814, 0x8cc70208, 0x90befffa, 0xa4506ceb, 0xbef9a3f7, 0xc67178f2,
}

// State is what a text has come to so far.
type State struct {
	Words [8]uint32
	Rest  string
	Count uint64
}

// Begin: nothing yet.
func Begin() State { return State{Words: firstWords} }

// Block: the words behind a block.
func Block(words [8]uint32, block string) [8]uint32 {
	if len(block) != blockBytes {
		return words
	}
	v := words
	for i, w := range schedule(block) {
		one := v[7] + bigOne(v[4]) + choice(v[4], v[5], v[6]) + roundWords[i] + w
		two := bigZero(v[0]) + majority(v[0], v[1], v[2])
		copy(v[1:], v[:7])
		v[4] += one
		v[0] = one + two
	}
	for i, w := range v {
		words[i] += w
	}
	return words
}

// schedule: the sixty-four words that a block is drawn out to.
func schedule(block string) [64]uint32 {
	var w [64]uint32
	for i := range 16 {
		w[i] = wordAt(block, 4*i)
	}
	for i := 16; i < len(w); i++ {
		w[i] = smallOne(w[i-2]) + w[i-7] + smallZero(w[i-15]) + w[i-16]
	}
	return w
}

func wordAt(s string, at int) uint32 {
	return uint32(s[at])<<24 | uint32(s[at+1])<<16 | uint32(s[at+2])<<8 | uint32(s[at+3])
}

func choice(x, y, z uint32) uint32 { return x&y ^ ^x&z }

func majority(x, y, z uint32) uint32 { return x&y ^ x&z ^ y&z }

func bigZero(x uint32) uint32 { return turn(x, 2) ^ turn(x, 13) ^ turn(x, 22) }

func bigOne(x uint32) uint32 { return turn(x, 6) ^ turn(x, 11) ^ turn(x, 25) }

func smallZero(x uint32) uint32 { return turn(x, 7) ^ turn(x, 18) ^ x>>3 }

func smallOne(x uint32) uint32 { return turn(x, 17) ^ turn(x, 19) ^ x>>10 }

func turn(x uint32, n int) uint32 { return bits.RotateLeft32(x, -n) }

// through: the words behind all whole blocks of a text, and what is left of it.
func through(words [8]uint32, text string) ([8]uint32, string) {
	for len(text) >= blockBytes {
		words = Block(words, text[:blockBytes])
		text = text[blockBytes:]
	}
	return words, text
}

// Add: a text more.
func (s State) Add(text string) State {
	words, rest := through(s.Words, s.Rest+text)
	// Cloned, lest a few bytes hold on to the memory of a long text.
	return State{Words: words, Rest: strings.Clone(rest), Count: s.Count + uint64(len(text))}
}

// End: the digest.
func (s State) End() api.Digest {
	words, _ := through(s.Words, s.Rest+padding(len(s.Rest), s.Count))
	var d api.Digest
	for i, w := range words {
		for j := range 4 {
			d[4*i+j] = byte(w >> (24 - 8*j))
		}
	}
	return d
}

// padding: what makes a rest whole blocks, and tells the length of all.
func padding(rest int, count uint64) string {
	noughts := (2*blockBytes - 9 - rest%blockBytes) % blockBytes
	p := make([]byte, 1+noughts+8)
	p[0] = 0x80
	bitCount := 8 * count
	for i := range 8 {
		p[1+noughts+i] = byte(bitCount >> (56 - 8*i))
	}
	return string(p)
}

// Sum: of parts, one behind the other.
func Sum(parts ...string) api.Digest {
	s := Begin()
	for _, part := range parts {
		s = s.Add(part)
	}
	return s.End()
}

// Text: in base sixteen.
func Text(d api.Digest) string {
	var b strings.Builder
	for _, x := range d {
		b.WriteByte(hexDigits[x>>4])
		b.WriteByte(hexDigits[x&15])
	}
	return b.String()
}

// Read: the digest that a text is.
func Read(s string) (api.Digest, bool) {
	var d api.Digest
	if len(s) != 2*len(d) {
		return api.Digest{}, false
	}
	for i := range d {
		high := strings.IndexByte(hexDigits, s[2*i])
		low := strings.IndexByte(hexDigits, s[2*i+1])
		if high < 0 || low < 0 {
			return api.Digest{}, false
		}
		d[i] = byte(high<<4 | low)
	}
	return d, true
}
