package share

import (
	"treenail/api"
	"treenail/group"
)

// maxIndex is the greatest index of a share; so there are at most as many shares.
const maxIndex = 255

// isIndex tells whether i may be the index of a share.
func isIndex(i int) bool { return 1 <= i && i <= maxIndex }

// number is an index as a number.
func number(i int) api.Nat { return api.Nat{uint64(i)} }

// tellsApart tells whether no two indices are the same scalar, and none is 0: whether Q is above all of them.
func tellsApart(x *group.Group) bool {
	q := x.Q()
	return len(q) > 1 || q[0] > maxIndex
}

// indices are the indices that occur in a list, as far as shares with them may be combined in a group.
func indices(x *group.Group, places []int) (map[int]struct{}, error) {
	if x == nil || !tellsApart(x) || len(places) == 0 || len(places) > maxIndex {
		return nil, api.ErrArg
	}
	occurred := make(map[int]struct{}, len(places))
	for _, i := range places {
		if _, twice := occurred[i]; twice || !isIndex(i) {
			return nil, api.ErrArg
		}
		occurred[i] = struct{}{}
	}
	return occurred, nil
}

// weight is the Lagrange coefficient of i: the product of all other places j, divided by the product of all j - i.
func weight(x *group.Group, places []int, i int) (api.Nat, error) {
	above, below := api.Nat{1}, api.Nat{1}
	scalars := x.Scalars()
	for _, j := range places {
		if j == i {
			continue
		}
		difference, err := scalars.Sub(number(j), number(i))
		if err != nil {
			return nil, err
		}
		if above, err = scalars.Mul(above, number(j)); err != nil {
			return nil, err
		}
		if below, err = scalars.Mul(below, difference); err != nil {
			return nil, err
		}
	}
	// Q is a prime above all differences, none of which is 0: there is an inverse.
	inverse, err := scalars.Inverse(below)
	if err != nil {
		return nil, err
	}
	return scalars.Mul(above, inverse)
}

// weighed is what a share adds to the secret; a value that is too long is refused.
func weighed(x *group.Group, places []int, s api.Share) (api.Nat, error) {
	w, err := weight(x, places, s.I)
	if err != nil {
		return nil, err
	}
	return x.Scalars().Mul(s.V, w)
}
