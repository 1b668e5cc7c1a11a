package group

import (
	"treenail/api"
	"treenail/nat"
)

// Size is how many bytes an element can hold: P4.3.
func (x *Group) Size() int { return bytesWithin(x.q) }

// bytesWithin is the greatest n for which 2^(8 n) is at most a number, 0 where there is none.
func bytesWithin(a api.Nat) int { return (nat.Bits(a) - 1) / 8 }

// Encode is bytes as an element: P4.3.
func (x *Group) Encode(b []byte) (api.Nat, error) {
	if len(b) != x.Size() {
		return nil, api.ErrArg
	}
	less, err := nat.From(b)
	if err != nil {
		return nil, err
	}
	number, err := nat.Add(less, api.Nat{1})
	if err != nil {
		return nil, err
	}
	if x.Is(number) {
		return number, nil
	}
	// Q is odd, so P - 1 is no square: of a number and its opposite just one is.
	return x.opposite(number)
}

// Decode is an element's bytes: P4.3.
func (x *Group) Decode(a api.Nat) ([]byte, error) {
	if !x.Is(a) {
		return nil, api.ErrGroup
	}
	number, err := x.lower(a)
	if err != nil {
		return nil, err
	}
	less, err := nat.Sub(number, api.Nat{1})
	if err != nil {
		return nil, err
	}
	return nat.Bytes(less, x.Size())
}

// lower is a number or its opposite, whichever is at most Q.
func (x *Group) lower(a api.Nat) (api.Nat, error) {
	if nat.Cmp(a, x.q) > 0 {
		return x.opposite(a)
	}
	return a, nil
}

// opposite is P less a number from 1 to P - 1.
func (x *Group) opposite(a api.Nat) (api.Nat, error) { return x.Sub(nil, a) }
