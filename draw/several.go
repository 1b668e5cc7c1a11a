package draw

import "treenail/api"

// Scalars draws several numbers below another one: P6.3.
func (d *Draws) Scalars(m api.Nat, n int) ([]api.Nat, error) {
	if outOfRange(n) {
		return nil, api.ErrArg
	}
	// Asked ahead of the draws: where none is made, m may still be wrong.
	if err := refusal(m); err != nil {
		return nil, err
	}
	scalars := make([]api.Nat, n)
	for i := range n {
		scalars[i] = firstBelow(m, d.draw)
	}
	return scalars, nil
}

// Perm draws a permutation: P6.3.
func (d *Draws) Perm(n int) ([]int, error) {
	if outOfRange(n) {
		return nil, api.ErrArg
	}
	perm := make([]int, n)
	for i := range n {
		perm[i] = i
	}
	for done := range n - 1 {
		i := n - 1 - done
		j := d.index(i + 1)
		perm[i], perm[j] = perm[j], perm[i]
	}
	return perm, nil
}

// index draws an index of a list of n things, which are at least one.
func (d *Draws) index(n int) int {
	z := firstBelow(api.Nat{uint64(n)}, d.draw)
	if len(z) == 0 {
		return 0
	}
	return int(z[0])
}
