// Package nat is layer 1: arithmetic on natural numbers of bounded length. See shared/doc/01-nat.md.
package nat

import (
	"cmp"
	"math/bits"

	"treenail/api"
)

// Norm is a number without zeros at its end: P1.1.
func Norm(a api.Nat) api.Nat {
	x := limbs(a)
	z := make(api.Nat, len(x))
	copy(z, x)
	return z
}

// Cmp is -1, 0 or 1, as a is less than, equal to or greater than b: P1.1.
func Cmp(a, b api.Nat) int {
	x, y := limbs(a), limbs(b)
	if len(x) != len(y) {
		return cmp.Compare(len(x), len(y))
	}
	for i := len(x) - 1; i >= 0; i-- {
		if x[i] != y[i] {
			return cmp.Compare(x[i], y[i])
		}
	}
	return 0
}

// Bits is how many bits a number has: P1.1.
func Bits(a api.Nat) int {
	x := limbs(a)
	if len(x) == 0 {
		return 0
	}
	return 64*(len(x)-1) + bits.Len64(x[len(x)-1])
}

// Bit tells whether bit i of a number is 1: P1.1.
func Bit(a api.Nat, i int) bool {
	// A negative i must not reach the division, which rounds towards 0.
	if i < 0 || i/64 >= len(a) {
		return false
	}
	return a[i/64]>>(i%64)&1 == 1
}

// limbs is the part of a number that counts; it shares a's memory, so it is for reading only.
func limbs(a api.Nat) api.Nat {
	n := len(a)
	for n > 0 && a[n-1] == 0 {
		n--
	}
	return a[:n]
}

// limbAt is limb i of a number, 0 beyond its end.
func limbAt(a api.Nat, i int) uint64 {
	if i >= len(a) {
		return 0
	}
	return a[i]
}
