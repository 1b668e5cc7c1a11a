package mont

import (
	"math/bits"

	"treenail/api"
	"treenail/nat"
)

// modulus is an odd number of n limbs, with what Montgomery's multiplication needs: in place of a residue it takes the residue's form, which is the residue of 2^(64 n) times it, told in n limbs. Products of forms need no division.
type modulus struct {
	limbs api.Nat
	// low times the lowest limb is -1 modulo 2^64: so a multiple of the modulus that clears another number's lowest limb is found by one product.
	low uint64
	// one is the form of 1.
	one api.Nat
	// shift is the form of 2^(64 n): a residue times it, as if both were forms, is the residue's form.
	shift api.Nat
}

// newModulus takes a number that is odd, at least 3, not too long, and without zeros at its end.
func newModulus(m api.Nat) modulus {
	n := len(m)
	power := make(api.Nat, n+1)
	power[n] = 1
	// nat refuses nothing here: a power of at most 33 limbs, a product of two residues, a divisor that isn't 0.
	_, one, _ := nat.Div(power, m)
	square, _ := nat.Mul(one, one)
	_, shift, _ := nat.Div(square, m)
	return modulus{m, -inverseOfLimb(m[0]), widen(one, n), widen(shift, n)}
}

// inverseOfLimb is what makes 1 of an odd number modulo 2^64.
func inverseOfLimb(a uint64) uint64 {
	// An odd number is its own inverse as far as 3 bits go, and each round doubles how far it goes.
	z := a
	for range 5 {
		z *= 2 - a*z
	}
	return z
}

// widen is a number told in n limbs, with zeros at its end where it has fewer.
func widen(a api.Nat, n int) api.Nat {
	z := make(api.Nat, n)
	copy(z, a)
	return z
}

// form is the form of a residue.
func (m *modulus) form(a api.Nat) api.Nat {
	return m.times(widen(a, len(m.limbs)), m.shift)
}

// residue is what a form is the form of.
func (m *modulus) residue(a api.Nat) api.Nat {
	return nat.Norm(m.times(a, widen(api.Nat{1}, len(m.limbs))))
}

// times is the form of a product, from the forms of its factors: their product over 2^(64 n), modulo the modulus.
func (m *modulus) times(x, y api.Nat) api.Nat {
	n := len(m.limbs)
	sum := make(api.Nat, n+1)
	for i := range n {
		m.addAndDrop(sum, x, y[i])
	}
	// The sum is less than twice the modulus: see addAndDrop.
	if nat.Cmp(sum, m.limbs) >= 0 {
		takeOff(sum[:n], m.limbs)
	}
	return sum[:n]
}

// addAndDrop adds k times x to the sum, then the multiple of the modulus that makes the lowest limb 0, and drops that limb. Where x is less than the modulus and the sum less than twice the modulus, it stays so: (2 m + 2 (2^64 - 1) m) / 2^64 is 2 m.
func (m *modulus) addAndDrop(sum, x api.Nat, k uint64) {
	n := len(m.limbs)
	over, limb := timesPlus(x[0], k, sum[0], 0)
	multiple := limb * m.low
	under, _ := timesPlus(m.limbs[0], multiple, limb, 0)
	for i := 1; i < n; i++ {
		over, limb = timesPlus(x[i], k, sum[i], over)
		under, sum[i-1] = timesPlus(m.limbs[i], multiple, limb, under)
	}
	limb, carry := bits.Add64(sum[n], over, 0)
	sum[n-1], sum[n] = bits.Add64(limb, under, 0)
	sum[n] += carry
}

// timesPlus is a times b, plus c, plus d: the greatest still fits into two limbs. The higher one comes first.
func timesPlus(a, b, c, d uint64) (uint64, uint64) {
	high, low := bits.Mul64(a, b)
	low, carry := bits.Add64(low, c, 0)
	high += carry
	low, carry = bits.Add64(low, d, 0)
	return high + carry, low
}

// takeOff takes b off a, which is as long; a borrow at the end belongs to a limb that the caller drops.
func takeOff(a, b api.Nat) {
	var borrow uint64
	for i := range len(b) {
		a[i], borrow = bits.Sub64(a[i], b[i], borrow)
	}
}
