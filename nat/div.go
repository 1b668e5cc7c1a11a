package nat

import (
	"math"
	"math/bits"

	"treenail/api"
)

// Div is the quotient of two numbers and the remainder: P1.2.
func Div(a, b api.Nat) (api.Nat, api.Nat, error) {
	x, y := limbs(a), limbs(b)
	if tooLong(x, y) {
		return nil, nil, api.ErrLong
	}
	if len(y) == 0 {
		return nil, nil, api.ErrZero
	}
	if len(x) < len(y) {
		return nil, Norm(x), nil
	}
	q, r := divide(x, y)
	return q, r, nil
}

// divide is long division with limbs as digits; x has at least as many limbs as y, and y has one.
func divide(x, y api.Nat) (api.Nat, api.Nat) {
	// With the highest bit of the divisor set, a digit guessed from its highest limb alone is too great by 2 at most.
	shift := bits.LeadingZeros64(y[len(y)-1])
	rest := shiftLeft(x, shift)
	n := len(y)
	v := shiftLeft(y, shift)[:n]
	q := make(api.Nat, len(x)-n+1)
	for j := len(q) - 1; j >= 0; j-- {
		q[j] = takeDigit(rest[j:j+n+1], v)
	}
	return limbs(q), limbs(shiftRight(rest[:n], shift))
}

// takeDigit takes v off u as often as it fits, and answers how often that was. u has one limb more than v, and without its lowest limb it is less than v.
func takeDigit(u, v api.Nat) uint64 {
	n := len(v)
	digit := guessDigit(u[n], u[n-1], v[n-1])
	over := takeTimes(u[:n], v, digit)
	below := u[n] < over
	u[n] -= over
	for below {
		digit--
		carry := addBack(u[:n], v)
		u[n], carry = bits.Add64(u[n], 0, carry)
		below = carry == 0
	}
	return digit
}

// guessDigit divides the two highest limbs of a number by the highest one of the divisor.
func guessDigit(high, low, top uint64) uint64 {
	// bits.Div64 panics where the quotient needs more than a limb.
	if high >= top {
		return math.MaxUint64
	}
	digit, _ := bits.Div64(high, low, top)
	return digit
}

// takeTimes takes k times v off u, which is as long, and answers what is left to take off the limb above.
func takeTimes(u, v api.Nat, k uint64) uint64 {
	var over uint64
	for i := range len(v) {
		high, low := bits.Mul64(v[i], k)
		low, c := bits.Add64(low, over, 0)
		high += c
		u[i], c = bits.Sub64(u[i], low, 0)
		// Where high has all its bits set, low is 0 and there is no borrow: this doesn't wrap.
		over = high + c
	}
	return over
}

// addBack adds v to u, which is as long, and answers the carry.
func addBack(u, v api.Nat) uint64 {
	var carry uint64
	for i := range len(v) {
		u[i], carry = bits.Add64(u[i], v[i], carry)
	}
	return carry
}

// shiftLeft is x times 2 to the s, with s below 64, in one limb more than x has.
func shiftLeft(x api.Nat, s int) api.Nat {
	z := make(api.Nat, len(x)+1)
	var over uint64
	for i := range len(x) {
		z[i] = x[i]<<s | over
		over = x[i] >> (64 - s)
	}
	z[len(x)] = over
	return z
}

// shiftRight is x over 2 to the s, with s below 64, in as many limbs as x has.
func shiftRight(x api.Nat, s int) api.Nat {
	z := make(api.Nat, len(x))
	for i := range len(x) {
		z[i] = x[i]>>s | limbAt(x, i+1)<<(64-s)
	}
	return z
}
