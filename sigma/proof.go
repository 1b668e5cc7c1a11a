package sigma

import (
	"treenail/api"
	"treenail/group"
)

// refusal is the error of a call that has no group, or a scalar that is too long. Where there is none, all that the group may still refuse is a number that is no element.
func refusal(x *group.Group, scalars ...api.Nat) error {
	if x == nil {
		return api.ErrArg
	}
	for _, s := range scalars {
		if len(limbs(s)) > api.MaxLimbs {
			return api.ErrLong
		}
	}
	return nil
}

// proveOne proves under a label that a scalar s is known.
func proveOne(x *group.Group, label string, context []byte, s, k api.Nat) (api.Proof, error) {
	if err := refusal(x, s, k); err != nil {
		return api.Proof{}, err
	}
	y, err := x.Base(s)
	if err != nil {
		return api.Proof{}, err
	}
	ofG, err := x.Base(k)
	if err != nil {
		return api.Proof{}, err
	}
	return answered(x, challenge(x, label, context, y, ofG), s, k)
}

// checkOne checks what proveOne proves.
func checkOne(x *group.Group, label string, context []byte, y api.Nat, p api.Proof) error {
	if err := refusal(x, p.E, p.Z); err != nil {
		return err
	}
	ofG, err := begun(x, x.G(), y, p)
	if err != nil {
		return err
	}
	return verdict(p.E, challenge(x, label, context, y, ofG))
}

// powers are the powers of G and of an element a by one scalar.
func powers(x *group.Group, a, s api.Nat) (api.Nat, api.Nat, error) {
	ofG, err := x.Base(s)
	if err != nil {
		return nil, nil, err
	}
	ofA, err := x.Exp(a, s)
	if err != nil {
		return nil, nil, err
	}
	return ofG, ofA, nil
}

// begun is the power of a base by k, without k: the base to the Z, divided by the base's power by s to the E.
func begun(x *group.Group, base, power api.Nat, p api.Proof) (api.Nat, error) {
	above, err := x.Exp(base, p.Z)
	if err != nil {
		return nil, err
	}
	below, err := x.Exp(power, p.E)
	if err != nil {
		return nil, err
	}
	return x.Over(above, below)
}

// answered is the proof that answers a challenge: its Z is k + E s.
func answered(x *group.Group, e, s, k api.Nat) (api.Proof, error) {
	scalars := x.Scalars()
	product, err := scalars.Mul(e, s)
	if err != nil {
		return api.Proof{}, err
	}
	z, err := scalars.Add(k, product)
	if err != nil {
		return api.Proof{}, err
	}
	return api.Proof{E: e, Z: z}, nil
}

// verdict is the error of a proof whose E isn't the challenge.
func verdict(e, challenge api.Nat) error {
	if !same(e, challenge) {
		return api.ErrProof
	}
	return nil
}
