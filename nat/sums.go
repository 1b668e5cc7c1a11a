package nat

import (
	"math/bits"

	"treenail/api"
)

// Add is the sum of two numbers: P1.2.
func Add(a, b api.Nat) (api.Nat, error) {
	x, y := limbs(a), limbs(b)
	if tooLong(x, y) {
		return nil, api.ErrLong
	}
	n := max(len(x), len(y))
	z := make(api.Nat, n+1)
	var carry uint64
	for i := range n {
		z[i], carry = bits.Add64(limbAt(x, i), limbAt(y, i), carry)
	}
	z[n] = carry
	return limbs(z), nil
}

// Sub is the difference of two numbers: P1.2.
func Sub(a, b api.Nat) (api.Nat, error) {
	x, y := limbs(a), limbs(b)
	if tooLong(x, y) {
		return nil, api.ErrLong
	}
	if Cmp(x, y) < 0 {
		return nil, api.ErrLess
	}
	z := make(api.Nat, len(x))
	var borrow uint64
	for i := range len(x) {
		z[i], borrow = bits.Sub64(x[i], limbAt(y, i), borrow)
	}
	return limbs(z), nil
}

// Mul is the product of two numbers: P1.2.
func Mul(a, b api.Nat) (api.Nat, error) {
	x, y := limbs(a), limbs(b)
	if tooLong(x, y) {
		return nil, api.ErrLong
	}
	z := make(api.Nat, len(x)+len(y))
	for i := range len(x) {
		z[i+len(y)] = addTimes(z[i:i+len(y)], y, x[i])
	}
	return limbs(z), nil
}

// tooLong tells whether one of two numbers, told without zeros at the end, is above the bound for arguments.
func tooLong(x, y api.Nat) bool {
	return len(x) > api.MaxLimbs || len(y) > api.MaxLimbs
}

// addTimes adds k times y to z, which is as long, and answers the limb that z has no room for.
func addTimes(z, y api.Nat, k uint64) uint64 {
	var over uint64
	for i := range len(y) {
		high, low := bits.Mul64(y[i], k)
		low, c := bits.Add64(low, over, 0)
		high += c
		z[i], c = bits.Add64(z[i], low, 0)
		// The largest product, and two limbs more, still fit into two limbs: this doesn't wrap.
		over = high + c
	}
	return over
}
