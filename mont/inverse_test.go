package mont_test

import (
	"math/big"
	"math/rand"
	"testing"

	"treenail/api"
	"treenail/mont"
)

// checkInverse holds an inverse, or that there is none, against what another reckoner says.
func checkInverse(t *testing.T, r *mont.Mod, a api.Nat) {
	t.Helper()
	got, err := r.Inverse(a)
	want := new(big.Int).ModInverse(toBig(a), toBig(r.Modulus()))
	if want == nil {
		wantError(t, got, err, api.ErrNone, "Inverse", r.Modulus(), a)
		return
	}
	wantNumber(t, got, err, want, "Inverse", r.Modulus(), a)
}

// P2.2: all numbers up to twice a small modulus.
func TestInverseModuloSmallNumbers(t *testing.T) {
	for m := uint64(3); m <= 255; m += 2 {
		r := modulo(t, api.Nat{m})
		for a := range 2*m + 2 {
			checkInverse(t, r, api.Nat{a})
			checkInverse(t, r, api.Nat{a, 0, 0})
		}
	}
}

// P2.2
func TestInverse(t *testing.T) {
	source := rand.New(rand.NewSource(25))
	eachArgument(t, func(r *mont.Mod, m, a api.Nat) {
		checkInverse(t, r, a)
		checkInverse(t, r, some(source, len(m)))
	})
}

// P2.2: 1 and m - 1 are their own inverses, and so is what has their residues.
func TestInverseOfOneAndMinusOne(t *testing.T) {
	for _, m := range moduli() {
		r := modulo(t, m)
		for _, a := range []api.Nat{{1}, {1, 0, 0}, plus(m, 1), plus(product(m, m), 1)} {
			got, err := r.Inverse(a)
			wantNumber(t, got, err, big.NewInt(1), "Inverse of 1", m, a)
		}
		for _, a := range []api.Nat{plus(m, -1), padded(plus(m, -1), 2), plus(product(m, m), -1)} {
			got, err := r.Inverse(a)
			wantNumber(t, got, err, toBig(plus(m, -1)), "Inverse of -1", m, a)
		}
	}
}

// P2.2: 0, the modulus and its multiples, and numbers with a divisor of it.
func TestInverseOfNone(t *testing.T) {
	for _, m := range moduli() {
		r := modulo(t, m)
		for _, a := range []api.Nat{nil, {}, {0}, make(api.Nat, 65), m, padded(m, 40), product(m, api.Nat{2}), product(m, m)} {
			got, err := r.Inverse(a)
			wantError(t, got, err, api.ErrNone, "Inverse", m, a)
		}
	}
	small, large := api.Nat{3}, plus(power(521), -1)
	for _, m := range []api.Nat{product(small, large), product(large, large), product(large, large, api.Nat{15})} {
		r := modulo(t, m)
		for _, a := range []api.Nat{large, product(large, api.Nat{2}), product(large, power(1000)), product(large, large)} {
			got, err := r.Inverse(a)
			wantError(t, got, err, api.ErrNone, "Inverse", m, a)
			checkInverse(t, r, plus(a, 1))
		}
	}
}
