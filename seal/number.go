package seal

import (
	"math/bits"

	"treenail/api"
)

// byteCount is how many bytes a number has that isn't 0 and has no zeros at its end.
func byteCount(a api.Nat) int {
	last := len(a) - 1
	return 8*last + (bits.Len64(a[last])+7)/8
}

// toBytes is a number's n lowest bytes, the highest first.
func toBytes(a api.Nat, n int) []byte {
	b := make([]byte, n)
	for i := range min(n, 8*len(a)) {
		b[n-1-i] = byte(a[i/8] >> (8 * (i % 8)))
	}
	return b
}
