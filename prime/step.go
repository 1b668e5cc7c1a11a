package prime

import (
	"treenail/api"
	"treenail/mont"
	"treenail/nat"
)

// checkStep asks all that a step says on its own, which is that P is a prime if Q is: P3.2.
func checkStep(step api.Step) error {
	if tooLong(step.Q) || tooLong(step.A) {
		return api.ErrLong
	}
	// A P that P3.2 calls too long, even or too small is no modulus either, for the same reason and with the same error.
	modP, err := mont.New(step.P)
	if err != nil {
		return err
	}
	rest, err := cofactor(step.P, step.Q)
	if err != nil {
		return err
	}
	return checkWitness(modP, step, rest)
}

// tooLong tells whether a number has more limbs than an argument may have.
func tooLong(a api.Nat) bool { return nat.Bits(a) > 64*api.MaxLimbs }

// cofactor is (P - 1) / Q, where Q is great enough for the criterion and divides P - 1.
func cofactor(p, q api.Nat) (api.Nat, error) {
	if nat.Bits(q) < 2 {
		return nil, api.ErrProof
	}
	square, err := nat.Mul(q, q)
	if err != nil {
		return nil, err
	}
	if nat.Cmp(square, p) <= 0 {
		return nil, api.ErrProof
	}
	less, err := nat.Sub(p, api.Nat{1})
	if err != nil {
		return nil, err
	}
	quotient, remainder, err := nat.Div(less, q)
	if err != nil {
		return nil, err
	}
	if nat.Bits(remainder) > 0 {
		return nil, api.ErrProof
	}
	return quotient, nil
}

// checkWitness asks that A shows the order that only a prime P allows.
func checkWitness(modP *mont.Mod, step api.Step, rest api.Nat) error {
	if nat.Bits(step.A) < 2 || nat.Cmp(step.A, step.P) >= 0 {
		return api.ErrProof
	}
	root, err := modP.Exp(step.A, rest)
	if err != nil {
		return err
	}
	// A to the P - 1 is this root to the Q: one power's cost instead of two.
	one, err := modP.Exp(root, step.Q)
	if err != nil {
		return err
	}
	if nat.Cmp(one, api.Nat{1}) != 0 {
		return api.ErrProof
	}
	less, err := modP.Sub(root, api.Nat{1})
	if err != nil {
		return err
	}
	// Only a number without a common divisor with P has an inverse.
	if _, err := modP.Inverse(less); err != nil {
		return api.ErrProof
	}
	return nil
}
