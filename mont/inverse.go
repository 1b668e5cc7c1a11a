package mont

import (
	"treenail/api"
	"treenail/nat"
)

// Inverse is the number whose product with a has the residue 1: P2.2.
func (r *Mod) Inverse(a api.Nat) (api.Nat, error) {
	x, err := r.Reduce(a)
	if err != nil {
		return nil, err
	}
	divisor, factor, below := euclid(r.limbs, x)
	if nat.Cmp(divisor, api.Nat{1}) != 0 {
		return nil, api.ErrNone
	}
	if below {
		return nat.Sub(r.limbs, factor)
	}
	return factor, nil
}

// euclid is the greatest common divisor of m and a number x less than m, and a factor: modulo m, the divisor is x times the factor, or, where the last answer is true, x times the factor below 0.
func euclid(m, x api.Nat) (api.Nat, api.Nat, bool) {
	high, low := m, x
	highFactor, lowFactor := api.Nat{}, api.Nat{1}
	// The signs of the two factors always differ, and take turns: so their sizes are only ever added up.
	below := true
	for nat.Bits(low) > 0 {
		// nat refuses nothing here: no number is greater than m, and no divisor is 0.
		quotient, rest, _ := nat.Div(high, low)
		more, _ := nat.Mul(quotient, lowFactor)
		next, _ := nat.Add(highFactor, more)
		high, low = low, rest
		highFactor, lowFactor = lowFactor, next
		below = !below
	}
	return high, highFactor, below
}
