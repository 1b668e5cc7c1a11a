package share

import (
	"slices"

	"treenail/api"
	"treenail/group"
)

// isPolynomial tells whether there is a group, and n may be the number of a polynomial's coefficients.
func isPolynomial(x *group.Group, n int) bool {
	return x != nil && 1 <= n && n <= api.MaxShares
}

// commitments are G to the power of each coefficient; one that is too long is refused.
func commitments(x *group.Group, poly []api.Nat) ([]api.Nat, error) {
	commits := make([]api.Nat, len(poly))
	for k, c := range poly {
		power, err := x.Base(c)
		if err != nil {
			return nil, err
		}
		commits[k] = power
	}
	return commits, nil
}

// value is the value of a polynomial at i, by Horner's rule.
func value(x *group.Group, poly []api.Nat, i int) (api.Nat, error) {
	scalars := x.Scalars()
	var v api.Nat
	for _, c := range slices.Backward(poly) {
		product, err := scalars.Mul(v, number(i))
		if err != nil {
			return nil, err
		}
		if v, err = scalars.Add(product, c); err != nil {
			return nil, err
		}
	}
	return v, nil
}

// publicValue is G to the value of a polynomial at i, of which only the commitments are known: Horner's rule, with powers for products and products for sums. Every commitment is a factor, so one that is no element is refused.
func publicValue(x *group.Group, commits []api.Nat, i int) (api.Nat, error) {
	v := api.Nat{1}
	for _, c := range slices.Backward(commits) {
		power, err := x.Exp(v, number(i))
		if err != nil {
			return nil, err
		}
		if v, err = x.Mul(power, c); err != nil {
			return nil, err
		}
	}
	return v, nil
}
