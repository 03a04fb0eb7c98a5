package digest

import "math/bits"

const (
	blockBytes = 64
	// lengthAt is where the number of bits stands in the last block.
	lengthAt = 56
	rounds   = 64
)

// words is the chapter's state: a to h.
type words [8]uint32

// block is what goes in at once.
type block [blockBytes]byte

// constants is the chapter's K.
var constants = [rounds]uint32{
	0x428a2f98, 0x71374491, 0xb5c0fbcf, 0xe9b5dba5, 0x3956c25b, 0x59f111f1, 0x923f82a4, 0xab1c5ed5,
	0xd807aa98, 0x12835b01, 0x243185be, 0x550c7dc3, 0x72be5d74, 0x80deb1fe, 0x9bdc06a7, 0xc19bf174,
	0xe49b69c1, 0xefbe4786, 0x0fc19dc6, 0x240ca1cc, 0x2de92c6f, 0x4a7484aa, 0x5cb0a9dc, 0x76f988da,
	0x983e5152, 0xa831c66d, 0xb00327c8, 0xbf597fc7, 0xc6e00bf3, 0xd5a79147, 0x06ca6351, 0x14292967,
	0x27b70a85, 0x2e1b2138, 0x4d2c6dfc, 0x53380d13, 0x650a7354, 0x766a0abb, 0x81c2c92e, 0x92722c85,
	0xa2bfe8a1, 0xa81a664b, 0xc24b8b70, 0xc76c51a3, 0xd192e819, 0xd6990624, 0xf40e3585, 0x106aa070,
	0x19a4c116, 0x1e376c08, 0x2748774c, 0x34b0bcb5, 0x391c0cb3, 0x4ed8aa4a, 0x5b9cca4f, 0x682e6ff3,
	0x748f82ee, 0x78a5636f, 0x84c87814, 0x8cc70208, 0x90befffa, 0xa4506ceb, 0xbef9a3f7, 0xc67178f2,
}

// first is the state ahead of all blocks.
func first() words {
	return words{
		0x6a09e667, 0xbb67ae85, 0x3c6ef372, 0xa54ff53a,
		0x510e527f, 0x9b05688c, 0x1f83d9ab, 0x5be0cd19,
	}
}

// mixed is the state behind the block.
func mixed(before words, b block) words {
	w := spread(b)
	s := before
	for i := range rounds {
		t := s[7] + turned(s[4], 6, 11, 25) + choice(s[4], s[5], s[6]) + constants[i] + w[i]
		u := turned(s[0], 2, 13, 22) + majority(s[0], s[1], s[2])
		copy(s[1:], s[:]) // each word goes one place on; h is gone
		s[4] += t
		s[0] = t + u
	}
	for i := range s {
		s[i] += before[i]
	}
	return s
}

// spread is the chapter's W.
func spread(b block) [rounds]uint32 {
	var w [rounds]uint32
	for i := range b {
		w[i/4] = w[i/4]<<8 | uint32(b[i])
	}
	for i := 16; i < rounds; i++ {
		w[i] = w[i-16] + shifted(w[i-15], 7, 18, 3) + w[i-7] + shifted(w[i-2], 17, 19, 10)
	}
	return w
}

// rot is the chapter's ROT: the library turns to the right by numbers below 0.
func rot(x uint32, n int) uint32 {
	return bits.RotateLeft32(x, -n)
}

func turned(x uint32, i, j, k int) uint32 {
	return rot(x, i) ^ rot(x, j) ^ rot(x, k)
}

func shifted(x uint32, i, j, k int) uint32 {
	return rot(x, i) ^ rot(x, j) ^ x>>k
}

// choice takes bits of y where x has a 1, of z where it has a 0.
func choice(x, y, z uint32) uint32 {
	return x&y ^ ^x&z
}

// majority has each bit that at least two of the three have.
func majority(x, y, z uint32) uint32 {
	return x&y ^ x&z ^ y&z
}

// text is the words as bytes.
func text(s words) string {
	out := make([]byte, 0, 4*len(s))
	for _, x := range s {
		out = append(out, byte(x>>24), byte(x>>16), byte(x>>8), byte(x))
	}
	return string(out)
}
