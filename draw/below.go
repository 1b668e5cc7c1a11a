package draw

import (
	"bytes"

	"treenail/api"
	"treenail/nat"
)

const (
	maxBound = 32  // limbs of a number below which others are drawn
	maxTries = 256 // draws that are made for one number
)

// Below draws a number below another one: P6.2.
func (d *Draws) Below(m api.Nat) (api.Nat, error) {
	if err := refusal(m); err != nil {
		return nil, err
	}
	return firstBelow(m, d.draw), nil
}

// refusal is why nothing can be drawn below a number, nil where something can.
func refusal(m api.Nat) error {
	if nat.Bits(m) == 0 {
		return api.ErrArg
	}
	if nat.Bits(m) > 64*maxBound {
		return api.ErrLong
	}
	return nil
}

// firstBelow is the first number below m that the draws make, where m is one that isn't refused.
func firstBelow(m api.Nat, draw func(n int) []byte) api.Nat {
	// Not refused: m is at least 1, and shorter than what nat takes.
	greatest, _ := nat.Sub(m, api.Nat{1})
	width := nat.Bits(greatest)
	size := max(1, (width+7)/8)
	var last []byte
	for range maxTries {
		last = draw(size)
		if z := lowBits(last, width); nat.Cmp(z, m) < 0 {
			return z
		}
	}
	// Without its highest bit it is below every number that has that bit.
	return lowBits(last, width-1)
}

// lowBits is the number that bytes are, without the bits that lead beyond the width; these are all in the first byte.
func lowBits(b []byte, width int) api.Nat {
	cut := bytes.Clone(b)
	cut[0] &= 0xff >> (8*len(cut) - width)
	// Not refused: nat takes twice as many bytes as the longest bound has.
	z, _ := nat.From(cut)
	return z
}
