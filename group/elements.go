package group

import (
	"treenail/api"
	"treenail/nat"
)

// Is tells whether a number is an element: P4.2.
func (x *Group) Is(a api.Nat) bool {
	if nat.Bits(a) == 0 || nat.Cmp(a, x.Modulus()) >= 0 {
		return false
	}
	power, err := x.Mod.Exp(a, x.q)
	return err == nil && nat.Cmp(power, api.Nat{1}) == 0
}

// Mul is a product: P4.2.
func (x *Group) Mul(a, b api.Nat) (api.Nat, error) {
	if !x.Is(a) || !x.Is(b) {
		return nil, api.ErrGroup
	}
	return x.Mod.Mul(a, b)
}

// Over is a quotient: P4.2.
func (x *Group) Over(a, b api.Nat) (api.Nat, error) {
	if !x.Is(a) || !x.Is(b) {
		return nil, api.ErrGroup
	}
	inverse, err := x.Inverse(b)
	if err != nil {
		return nil, err
	}
	return x.Mod.Mul(a, inverse)
}

// Exp is a power: P4.2.
func (x *Group) Exp(a, s api.Nat) (api.Nat, error) {
	if !x.Is(a) {
		return nil, api.ErrGroup
	}
	return x.power(a, s)
}

// Base is a power of G: P4.2.
func (x *Group) Base(s api.Nat) (api.Nat, error) { return x.power(x.g, s) }

// power is a power of a number that is known to be an element: its exponent counts modulo Q only, and so is no longer than Q.
func (x *Group) power(a, s api.Nat) (api.Nat, error) {
	_, exponent, err := nat.Div(s, x.q)
	if err != nil {
		return nil, err
	}
	return x.Mod.Exp(a, exponent)
}
