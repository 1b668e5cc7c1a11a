package hash

import "math/bits"

const (
	blockSize  = 64
	lengthSize = 8 // of the length that ends the last block
)

// words are the eight words of a state.
type words [8]uint32

// schedule holds the words of a block, and those that they are drawn out to, one for each round.
type schedule [64]uint32

// startWords are the first 32 bits behind the point of the square roots of the first eight primes.
var startWords = words{
	0x6a09e667, 0xbb67ae85, 0x3c6ef372, 0xa54ff53a, 0x510e527f, 0x9b05688c, 0x1f83d9ab, 0x5be0cd19,
}

// roundWords are the first 32 bits behind the point of the cube roots of the first 64 primes.
var roundWords = [64]uint32{
	0x428a2f98, 0x71374491, 0xb5c0fbcf, 0xe9b5dba5, 0x3956c25b, 0x59f111f1, 0x923f82a4, 0xab1c5ed5,
	0xd807aa98, 0x12835b01, 0x243185be, 0x550c7dc3, 0x72be5d74, 0x80deb1fe, 0x9bdc06a7, 0xc19bf174,
	0xe49b69c1, 0xefbe4786, 0x0fc19dc6, 0x240ca1cc, 0x2de92c6f, 0x4a7484aa, 0x5cb0a9dc, 0x76f988da,
	0x983e5152, 0xa831c66d, 0xb00327c8, 0xbf597fc7, 0xc6e00bf3, 0xd5a79147, 0x06ca6351, 0x14292967,
	0x27b70a85, 0x2e1b2138, 0x4d2c6dfc, 0x53380d13, 0x650a7354, 0x766a0abb, 0x81c2c92e, 0x92722c85,
	0xa2bfe8a1, 0xa81a664b, 0xc24b8b70, 0xc76c51a3, 0xd192e819, 0xd6990624, 0xf40e3585, 0x106aa070,
	0x19a4c116, 0x1e376c08, 0x2748774c, 0x34b0bcb5, 0x391c0cb3, 0x4ed8aa4a, 0x5b9cca4f, 0x682e6ff3,
	0x748f82ee, 0x78a5636f, 0x84c87814, 0x8cc70208, 0x90befffa, 0xa4506ceb, 0xbef9a3f7, 0xc67178f2,
}

// digest is the digest of bytes of which the state has absorbed as many as before says, whole blocks, and b is the rest.
func digest(state words, before int, b []byte) []byte {
	whole := wholeBlocks(b)
	state = absorbed(state, b[:whole])
	length := uint64(before) + uint64(len(b))
	return wordBytes(absorbed(state, padded(b[whole:], length)))
}

// wholeBlocks is how many of the bytes are in whole blocks.
func wholeBlocks(b []byte) int { return len(b) - len(b)%blockSize }

// absorbed is the state after the blocks of b, which are whole.
func absorbed(state words, b []byte) words {
	for at := 0; at < len(b); at += blockSize {
		state = compressed(state, scheduled(b[at:at+blockSize]))
	}
	return state
}

// padded is the last one or two blocks of bytes of that length, whose end behind all whole blocks is the tail.
func padded(tail []byte, length uint64) []byte {
	size := blockSize
	if len(tail)+1+lengthSize > blockSize {
		size = 2 * blockSize
	}
	out := make([]byte, size)
	copy(out, tail)
	out[len(tail)] = 0x80
	copy(out[size-lengthSize:], eightBytes(8*length))
	return out
}

// scheduled is the words of the rounds for a block.
func scheduled(block []byte) schedule {
	var w schedule
	for i := range blockSize / 4 {
		w[i] = uint32(block[4*i])<<24 | uint32(block[4*i+1])<<16 | uint32(block[4*i+2])<<8 | uint32(block[4*i+3])
	}
	for i := blockSize / 4; i < len(w); i++ {
		x, y := w[i-15], w[i-2]
		s0 := right(x, 7) ^ right(x, 18) ^ x>>3
		s1 := right(y, 17) ^ right(y, 19) ^ y>>10
		w[i] = w[i-16] + s0 + w[i-7] + s1
	}
	return w
}

// compressed is the state after the rounds of one block.
func compressed(state words, w schedule) words {
	a, b, c, d := state[0], state[1], state[2], state[3]
	e, f, g, h := state[4], state[5], state[6], state[7]
	for i := range w {
		t1 := h + (right(e, 6) ^ right(e, 11) ^ right(e, 25)) + (e&f ^ ^e&g) + roundWords[i] + w[i]
		t2 := (right(a, 2) ^ right(a, 13) ^ right(a, 22)) + (a&b ^ a&c ^ b&c)
		a, b, c, d, e, f, g, h = t1+t2, a, b, c, d+t1, e, f, g
	}
	return words{
		state[0] + a, state[1] + b, state[2] + c, state[3] + d,
		state[4] + e, state[5] + f, state[6] + g, state[7] + h,
	}
}

// right is a word rotated to the right.
func right(x uint32, n int) uint32 { return bits.RotateLeft32(x, -n) }

// wordBytes is the bytes of a state.
func wordBytes(state words) []byte {
	out := make([]byte, 0, 4*len(state))
	for _, x := range state {
		out = append(out, byte(x>>24), byte(x>>16), byte(x>>8), byte(x))
	}
	return out
}

// eightBytes is a number as 8 bytes, the most significant first.
func eightBytes(n uint64) []byte {
	out := make([]byte, 8)
	for i := range out {
		out[i] = byte(n >> (56 - 8*i))
	}
	return out
}
