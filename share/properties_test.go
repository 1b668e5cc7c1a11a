package share_test

import (
	"math/rand"
	"slices"
	"testing"

	"treenail/api"
	"treenail/share"
)

// dealt deals, and checks each share.
func (s *setting) dealt(t *testing.T, poly []api.Nat, n int) ([]api.Share, []api.Nat) {
	t.Helper()
	l, commits, err := share.Deal(s.x, poly, n)
	if err != nil || len(l) != n {
		t.Fatalf("Deal %x, %d: %x, %v", poly, n, l, err)
	}
	for _, one := range l {
		wantVerdict(t, share.Check(s.x, commits, one), true, "Check of what was dealt", s.p, poly, one)
	}
	return l, commits
}

// some are n of the shares, in any order.
func some(r *rand.Rand, l []api.Share, n int) []api.Share {
	var z []api.Share
	for _, k := range r.Perm(len(l))[:n] {
		z = append(z, l[k])
	}
	return z
}

// P9.6: each share of a Deal is accepted, and as many shares as there are coefficients, or more, combine to the constant one; fewer of them combine to what the sum says.
func TestDealtCombines(t *testing.T) {
	r := rand.New(rand.NewSource(260))
	for _, s := range settings(t) {
		for _, poly := range s.polynomials(r) {
			k := len(poly)
			l, _ := s.dealt(t, poly, k+r.Intn(4))
			for range 3 {
				got, err := share.Combine(s.x, some(r, l, k+r.Intn(len(l)-k+1)))
				wantNumber(t, got, err, s.reduced(poly[0]), "Combine of enough", s.p, poly)
				few := some(r, l, 1+r.Intn(k))
				got, err = share.Combine(s.x, few)
				wantNumber(t, got, err, s.combine(few), "Combine of few", s.p, poly, few)
			}
		}
	}
}

// P9.6: each choice of three of eight shares, in each order, of a polynomial of three coefficients.
func TestEachChoiceCombines(t *testing.T) {
	r := rand.New(rand.NewSource(261))
	for _, s := range settings(t) {
		poly := s.polynomial(r, 3)
		l, _ := s.dealt(t, poly, 8)
		for code := range 8 * 8 * 8 {
			a, b, c := code%8, code/8%8, code/64
			if a != b && b != c && a != c {
				got, err := share.Combine(s.x, []api.Share{l[a], l[b], l[c]})
				wantNumber(t, got, err, s.reduced(poly[0]), "Combine", s.p, poly, a, b, c)
			}
		}
	}
}

// P9.6: as many shares as there may be, all accepted; 32 of them, and all of them, combine to the secret of a polynomial that is as long as it may be, and 31 don't in a group with many scalars.
func TestAllShares(t *testing.T) {
	r := rand.New(rand.NewSource(262))
	for _, s := range []*setting{least(t), thirtyBits(t), fourLimbs(t)} {
		poly := s.polynomial(r, 32)
		l, _, err := share.Deal(s.x, poly, 255)
		if err != nil {
			t.Fatal(err)
		}
		for _, n := range []int{32, 33, 100, 255} {
			got, err := share.Combine(s.x, some(r, l, n))
			wantNumber(t, got, err, s.reduced(poly[0]), "Combine", s.p, n)
		}
		few, err := share.Combine(s.x, some(r, l, 31))
		if err != nil || s.q.BitLen() > 200 && slices.Equal(few, poly[0]) {
			t.Fatalf("Combine of 31: %x, %v", few, err)
		}
	}
	s := least(t)
	s.dealt(t, s.polynomial(r, 32), 255)
}

// P9.6, P9.3: of a dealt share, the right value is the only one that is accepted.
func TestOneValueIsAccepted(t *testing.T) {
	r := rand.New(rand.NewSource(263))
	for _, s := range settings(t) {
		l, commits := s.dealt(t, s.polynomial(r, 4), 6)
		for _, one := range l {
			for range 20 {
				other := api.Share{I: one.I, V: s.scalar(r)}
				wantVerdict(t, share.Check(s.x, commits, other), slices.Equal(other.V, one.V), "Check of any value", s.p, one, other)
			}
		}
	}
}

// P9.4: the weights of some places add up to 1, since they combine the shares of a polynomial that is 1 everywhere.
func TestWeightsAddUpToOne(t *testing.T) {
	r := rand.New(rand.NewSource(264))
	for _, s := range settings(t) {
		for _, n := range []int{1, 2, 3, 40} {
			places, sum := someOf(r, n), api.Nat{}
			for _, i := range places {
				weight, err := share.Weight(s.x, places, i)
				if err != nil {
					t.Fatal(err)
				}
				sum = s.reduced(timesPlus(weight, api.Nat{1}, sum))
			}
			wantNumber(t, sum, nil, api.Nat{1}, "the sum of the weights", s.p, places)
		}
	}
}

// P9.2 to P9.4, P9.6: a group as great as a group may be.
func TestGreatestGroup(t *testing.T) {
	r := rand.New(rand.NewSource(265))
	s := greatest(t)
	poly := []api.Nat{full(64), s.scalar(r), s.scalar(r)}
	s.checkDeal(t, poly, 255)
	l, commits := s.dealt(t, poly, 5)
	got, err := share.Combine(s.x, []api.Share{l[4], l[0], l[2]})
	wantNumber(t, got, err, s.reduced(full(64)), "Combine in the greatest group")
	weight, err := share.Weight(s.x, upTo(255), 100)
	wantNumber(t, weight, err, s.weight(upTo(255), 100), "Weight in the greatest group")
	l[1].V = plus(l[1].V, 1)
	wantVerdict(t, share.Check(s.x, commits, l[1]), false, "Check in the greatest group")
	public, err := share.Public(s.x, commits, 255)
	wantNumber(t, public, err, s.public(commits, 255), "Public in the greatest group")
}

// R3, and the package's own: the same call answers the same, whatever was called between.
func TestSameCallSameAnswer(t *testing.T) {
	r := rand.New(rand.NewSource(266))
	for _, s := range settings(t) {
		a := s.right(r)
		for _, c := range calls() {
			first, err := c.run(a)
			if err != nil {
				t.Fatal(err)
			}
			for range 5 {
				for _, other := range calls() {
					between := s.right(r)
					between.n, between.places[1] = 256, 0
					other.run(between)
				}
				if got, err := c.run(a); err != nil || !sameAnswer(got, first) {
					t.Fatalf("%s: %x, then %x, %v", c.name, first, got, err)
				}
			}
		}
	}
}
