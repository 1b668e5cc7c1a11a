package nat

import "treenail/api"

// The bounds of From and Bytes, in bytes: what an argument may have, what a product of two may have.
const (
	maxFrom  = 8 * api.MaxLimbs
	maxBytes = 2 * maxFrom
)

// From is the number that bytes are, the highest first: P1.3.
func From(b []byte) (api.Nat, error) {
	if len(b) > maxFrom {
		return nil, api.ErrLong
	}
	z := make(api.Nat, (len(b)+7)/8)
	for i := range len(b) {
		z[i/8] |= uint64(b[len(b)-1-i]) << (8 * (i % 8))
	}
	return limbs(z), nil
}

// Bytes is a number in n bytes, the highest first: P1.3.
func Bytes(a api.Nat, n int) ([]byte, error) {
	if n < 0 || n > maxBytes {
		return nil, api.ErrArg
	}
	if Bits(a) > 8*n {
		return nil, api.ErrLong
	}
	b := make([]byte, n)
	for i := range n {
		b[n-1-i] = byte(limbAt(a, i/8) >> (8 * (i % 8)))
	}
	return b, nil
}
