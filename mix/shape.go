package mix

import (
	"slices"

	"treenail/api"
)

// isLetter tells whether a letter may have n pairs.
func isLetter(n int) bool { return 1 <= n && n <= api.MaxParts }

// isBatch tells whether letters may be a batch: not too many, each with as many pairs as the first one.
func isBatch(b [][]api.Pair) bool {
	if len(b) > api.MaxBatch {
		return false
	}
	for _, l := range b {
		if !isLetter(len(l)) || len(l) != len(b[0]) {
			return false
		}
	}
	return true
}

// isPermutation tells whether a list has each of the numbers below n once, and nothing else.
func isPermutation(perm []int, n int) bool {
	if len(perm) != n {
		return false
	}
	seen := make([]bool, n)
	for _, i := range perm {
		if i < 0 || i >= n || seen[i] {
			return false
		}
		seen[i] = true
	}
	return true
}

// haveScalars tells whether there is a list of scalars for each letter, and in it one for each pair.
func haveScalars(b [][]api.Pair, r [][]api.Nat) bool {
	return slices.EqualFunc(b, r, func(l []api.Pair, scalars []api.Nat) bool { return len(l) == len(scalars) })
}

// anyTooLong tells whether one of several scalars is too long.
func anyTooLong(scalars []api.Nat) bool { return slices.ContainsFunc(scalars, tooLong) }

// tooLong tells whether a scalar has more limbs than an argument may have; zeros at its end are no limbs.
func tooLong(a api.Nat) bool {
	n := len(a)
	for n > 0 && a[n-1] == 0 {
		n--
	}
	return n > api.MaxLimbs
}
