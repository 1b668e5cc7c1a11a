package mont

import (
	"treenail/api"
	"treenail/nat"
)

// An exponent is gone through by digits of so many bits. It divides 64, so that no digit spans two limbs.
const digitBits = 4

// powerTable holds the powers of a base, in their forms, for all that a digit may be.
type powerTable [1 << digitBits]api.Nat

// Exp is the residue of a power: P2.2.
func (r *Mod) Exp(a, e api.Nat) (api.Nat, error) {
	if nat.Bits(e) > 64*api.MaxLimbs {
		return nil, api.ErrLong
	}
	base, err := r.Reduce(a)
	if err != nil {
		return nil, err
	}
	powers := r.powersOf(r.form(base))
	z := r.one
	for i := digitCount(e) - 1; i >= 0; i-- {
		for range digitBits {
			z = r.times(z, z)
		}
		z = r.times(z, powers[digitAt(e, i)])
	}
	return r.residue(z), nil
}

// powersOf is the table of a base's powers, from the base's form.
func (m *modulus) powersOf(base api.Nat) powerTable {
	var powers powerTable
	powers[0] = m.one
	for i := 1; i < len(powers); i++ {
		powers[i] = m.times(powers[i-1], base)
	}
	return powers
}

// digitCount is how many digits an exponent has.
func digitCount(e api.Nat) int {
	return (nat.Bits(e) + digitBits - 1) / digitBits
}

// digitAt is digit i of an exponent, the lowest one being digit 0.
func digitAt(e api.Nat, i int) uint64 {
	const inLimb = 64 / digitBits
	return e[i/inLimb] >> (digitBits * (i % inLimb)) % (1 << digitBits)
}
