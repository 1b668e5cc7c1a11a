package share_test

import (
	"testing"

	"treenail/api"
	"treenail/share"
)

// The examples of the chapter.
func TestExamples(t *testing.T) {
	s := small(t, 100547, 50273, api.Nat{4})
	l, commits, err := share.Deal(s.x, []api.Nat{{7}, {2}}, 3)
	want := []api.Share{{I: 1, V: api.Nat{9}}, {I: 2, V: api.Nat{11}}, {I: 3, V: api.Nat{13}}}
	if err != nil || !sameShares(l, want) || !sameNumbers(commits, []api.Nat{{16384}, {16}}) {
		t.Error(l, commits, err)
	}
	z, err := share.Weight(s.x, []int{1, 2}, 1)
	wantNumber(t, z, err, api.Nat{2}, "Weight")
	z, err = share.Combine(s.x, []api.Share{{I: 1, V: api.Nat{9}}, {I: 2, V: api.Nat{11}}})
	wantNumber(t, z, err, api.Nat{7}, "Combine")
	for _, wrong := range [][]api.Share{nil, {{I: 1, V: api.Nat{9}}, {I: 1, V: api.Nat{9}}}} {
		if z, err := share.Combine(s.x, wrong); z != nil || err != api.ErrArg {
			t.Error(wrong, z, err)
		}
	}
}

// known is what was worked out elsewhere of a group.
type known struct {
	s *setting
	// Of the polynomial 5, 0, 3, 1: the values at 1 to 5, the commitments, the value at 255, G to its power.
	values, commits []api.Nat
	last, public    api.Nat
	// Of the polynomial Q, Q + 1, 2^64: the values at 1 to 3.
	great []api.Nat
	// Of the places 255, 1, 100: the weights; of all places: the weight of 128.
	weights []api.Nat
	middle  api.Nat
	// What the first polynomial's shares 2 and 4 combine to, though they are too few.
	tooFew api.Nat
}

// knowns are what is known.
func knowns(t *testing.T) []known {
	values := []api.Nat{{9}, {25}, {59}, {117}, {205}}
	return []known{
		{
			least(t), values, []api.Nat{{461}, {1}, {64}, {4}}, api.Nat{193}, api.Nat{127},
			[]api.Nat{{102}, {125}, {69}}, []api.Nat{{97}, {221}, {245}}, api.Nat{220}, api.Nat{214},
		},
		{
			small(t, 100547, 50273, api.Nat{4}), values, []api.Nat{{1024}, {1}, {64}, {4}}, api.Nat{35546}, api.Nat{35303},
			[]api.Nat{{23835}, {45065}, {13417}}, []api.Nat{{42854}, {13268}, {44425}}, api.Nat{37141}, api.Nat{50206},
		},
		{
			thirtyBits(t), values, []api.Nat{{1024}, {1}, {64}, {4}}, api.Nat{16776455}, api.Nat{359368335},
			[]api.Nat{{51805977}, {207223906}, {18618628}}, []api.Nat{{373844146}, {56288173}, {17502841}}, api.Nat{36402283}, api.Nat{447635092},
		},
	}
}

// sharesOf are shares of values, with the indices from 1 on.
func sharesOf(values []api.Nat) []api.Share {
	l := make([]api.Share, len(values))
	for k, v := range values {
		l[k] = api.Share{I: k + 1, V: v}
	}
	return l
}

// P9.2, P9.3: dealt shares and their commitments that were worked out elsewhere.
func TestKnownShares(t *testing.T) {
	for _, k := range knowns(t) {
		l, commits, err := share.Deal(k.s.x, []api.Nat{{5}, {0}, {3}, {1}}, 5)
		if err != nil || !sameShares(l, sharesOf(k.values)) || !sameNumbers(commits, k.commits) {
			t.Error(k.s.p, l, commits, err)
		}
		q := fromBig(k.s.q)
		l, _, err = share.Deal(k.s.x, []api.Nat{q, plus(q, 1), {0, 1}}, 3)
		if err != nil || !sameShares(l, sharesOf(k.great)) {
			t.Error(k.s.p, l, err)
		}
		z, err := share.Public(k.s.x, k.commits, 255)
		wantNumber(t, z, err, k.public, "Public", k.s.p)
		wantVerdict(t, share.Check(k.s.x, k.commits, api.Share{I: 255, V: k.last}), true, "Check", k.s.p)
	}
}

// P9.4: weights that were worked out elsewhere, and what shares combine to.
func TestKnownWeights(t *testing.T) {
	for _, k := range knowns(t) {
		places := []int{255, 1, 100}
		for at, i := range places {
			z, err := share.Weight(k.s.x, places, i)
			wantNumber(t, z, err, k.weights[at], "Weight", k.s.p, i)
		}
		for i, want := range map[int]api.Nat{1: {255}, 128: k.middle, 255: {1}} {
			z, err := share.Weight(k.s.x, upTo(255), i)
			wantNumber(t, z, err, want, "Weight among all places", k.s.p, i)
		}
		z, err := share.Weight(k.s.x, []int{9}, 9)
		wantNumber(t, z, err, api.Nat{1}, "Weight of one place", k.s.p)
		all := sharesOf(k.values)
		z, err = share.Combine(k.s.x, []api.Share{all[3], all[0], all[2], all[4]})
		wantNumber(t, z, err, api.Nat{5}, "Combine", k.s.p)
		z, err = share.Combine(k.s.x, []api.Share{all[1], all[3]})
		wantNumber(t, z, err, k.tooFew, "Combine of too few", k.s.p)
	}
}
