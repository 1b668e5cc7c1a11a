package share_test

import (
	"math/rand"
	"slices"
	"testing"

	"treenail/api"
	"treenail/share"
)

// checkDeal holds what is dealt against what P9.2 says.
func (s *setting) checkDeal(t *testing.T, poly []api.Nat, n int) {
	t.Helper()
	l, commits, err := share.Deal(s.x, poly, n)
	if err != nil || !sameShares(l, s.shares(poly, upTo(n)...)) || !sameNumbers(commits, s.commitments(poly)) {
		t.Fatalf("Deal %x, %d modulo %x is %x, %x, %v", poly, n, s.p, l, commits, err)
	}
}

// P9.2: polynomials at the edges, by a few shares.
func TestDeal(t *testing.T) {
	r := rand.New(rand.NewSource(200))
	for _, s := range settings(t) {
		for _, poly := range s.polynomials(r) {
			s.checkDeal(t, poly, 1+r.Intn(8))
		}
	}
}

// P9.2: as many shares as there may be, of polynomials as short and as long as they may be; fewer shares than coefficients too.
func TestDealNumbers(t *testing.T) {
	r := rand.New(rand.NewSource(201))
	for _, s := range settings(t) {
		for _, coefficients := range []int{1, 2, 31, 32} {
			for _, n := range []int{1, 2, 31, 32, 33, 254, 255} {
				s.checkDeal(t, s.polynomial(r, coefficients), n)
			}
		}
	}
}

// P9.2: each polynomial of a line, with all shares, in the smallest group: a value is 0 among them, and each scalar.
func TestDealLines(t *testing.T) {
	s := least(t)
	for c := range uint64(283) {
		s.checkDeal(t, []api.Nat{{c}, {282 - c}}, 255)
	}
}

// P9.2, P9.1: counts that may not be.
func TestDealWrongNumbers(t *testing.T) {
	r := rand.New(rand.NewSource(202))
	for _, s := range settings(t) {
		for _, coefficients := range []int{0, 33, 34, 255, 1000} {
			for _, n := range []int{1, 3, 255} {
				refusedDeal(t, s, s.polynomial(r, coefficients), n, api.ErrArg)
			}
		}
		for _, n := range wrongIndices() {
			refusedDeal(t, s, s.polynomial(r, 1), n, api.ErrArg)
			refusedDeal(t, s, s.polynomial(r, 32), n, api.ErrArg)
		}
	}
}

// refusedDeal checks that a Deal is refused, with nothing beside the error.
func refusedDeal(t *testing.T, s *setting, poly []api.Nat, n int, want api.Code) {
	t.Helper()
	shares, commits, err := share.Deal(s.x, poly, n)
	if len(shares) != 0 || len(commits) != 0 || err != want {
		t.Fatalf("Deal of %d coefficients, %d: %x, %x, %v", len(poly), n, shares, commits, err)
	}
}

// P9.2, P9.1: a coefficient that is too long, in each place of polynomials of all lengths.
func TestDealLongCoefficients(t *testing.T) {
	r := rand.New(rand.NewSource(203))
	s := thirtyBits(t)
	for n := 1; n <= 32; n++ {
		for at := range n {
			for _, long := range longScalars() {
				poly := s.polynomial(r, n)
				poly[at] = long
				refusedDeal(t, s, poly, 1+r.Intn(9), api.ErrLong)
			}
		}
	}
}

// P9.2: what counts of a coefficient is its residue, but how it is told doesn't.
func TestDealModuloQ(t *testing.T) {
	r := rand.New(rand.NewSource(204))
	for _, s := range settings(t) {
		poly := s.polynomial(r, 4)
		want, commits, err := share.Deal(s.x, poly, 9)
		if err != nil {
			t.Fatal(err)
		}
		for at := range poly {
			for _, more := range append(s.withQs(poly[at]), padded(poly[at], 1), padded(poly[at], 100)) {
				changed := slices.Clone(poly)
				changed[at] = more
				got, commitsGot, err := share.Deal(s.x, changed, 9)
				if err != nil || !sameShares(got, want) || !sameNumbers(commitsGot, commits) {
					t.Fatalf("Deal %x, then %x: %x, then %x, %v", poly, changed, want, got, err)
				}
			}
		}
	}
}
