package sigma

import (
	"math/bits"
	"slices"

	"treenail/api"
)

// byteCount is how many bytes a number has that isn't 0 and has no zeros at its end.
func byteCount(a api.Nat) int {
	last := len(a) - 1
	return 8*last + (bits.Len64(a[last])+7)/8
}

// toBytes is a number's n lowest bytes, the highest first.
func toBytes(a api.Nat, n int) []byte {
	b := make([]byte, n)
	for i := range min(n, 8*len(a)) {
		b[n-1-i] = byte(a[i/8] >> (8 * (i % 8)))
	}
	return b
}

// fromBytes is the number that bytes tell, the highest first.
func fromBytes(b []byte) api.Nat {
	a := make(api.Nat, (len(b)+7)/8)
	for i := range b {
		a[i/8] |= uint64(b[len(b)-1-i]) << (8 * (i % 8))
	}
	return a
}

// limbs is the part of a number that counts; it shares a's memory, so it is for reading only.
func limbs(a api.Nat) api.Nat {
	n := len(a)
	for n > 0 && a[n-1] == 0 {
		n--
	}
	return a[:n]
}

// same tells whether two lists of limbs are the same number.
func same(a, b api.Nat) bool { return slices.Equal(limbs(a), limbs(b)) }
