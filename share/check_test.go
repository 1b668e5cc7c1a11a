package share_test

import (
	"math/rand"
	"slices"
	"testing"

	"treenail/api"
	"treenail/share"
)

// indicesAtEdges are indices at the edges, and others.
func indicesAtEdges() []int { return []int{1, 2, 3, 16, 100, 128, 254, 255} }

// listsOfCommitments are commitments at the edges: 1 and 32 of them, told with zeros at their ends, elements that are no known powers, of polynomials of all kinds.
func (s *setting) listsOfCommitments(r *rand.Rand) [][]api.Nat {
	l := [][]api.Nat{s.elements(), slices.Repeat([]api.Nat{{1}}, 32), slices.Repeat([]api.Nat{fromBig(s.g)}, 32), slices.Repeat(s.elements(), 4)}
	for _, e := range s.elements() {
		l = append(l, []api.Nat{e}, []api.Nat{e, {9}}, []api.Nat{{9}, e}, []api.Nat{{4}, e, s.base(s.scalar(r))})
	}
	for _, n := range []int{1, 2, 31, 32} {
		l = append(l, s.commitments(s.polynomial(r, n)))
	}
	return l
}

// P9.3: Public is the product of the commitments' powers.
func TestPublic(t *testing.T) {
	r := rand.New(rand.NewSource(210))
	for _, s := range settings(t) {
		for _, commits := range s.listsOfCommitments(r) {
			for _, i := range indicesAtEdges() {
				got, err := share.Public(s.x, commits, i)
				wantNumber(t, got, err, s.public(commits, i), "Public", s.p, commits, i)
			}
		}
	}
}

// P9.3: Public is G to the power of the share's value, for each index.
func TestPublicIsOfTheShare(t *testing.T) {
	r := rand.New(rand.NewSource(211))
	for _, s := range []*setting{least(t), small(t, 587, 293, api.Nat{4}), thirtyBits(t)} {
		for _, n := range []int{1, 2, 3, 32} {
			poly := s.polynomial(r, n)
			for i := 1; i <= 255; i++ {
				got, err := share.Public(s.x, s.commitments(poly), i)
				wantNumber(t, got, err, s.base(s.value(poly, i)), "Public", s.p, poly, i)
			}
		}
	}
}

// checkCheck holds what Check says of a share against what P9.3 says.
func (s *setting) checkCheck(t *testing.T, commits []api.Nat, one api.Share) {
	t.Helper()
	holds := slices.Equal(s.base(one.V), s.public(commits, one.I))
	wantVerdict(t, share.Check(s.x, commits, one), holds, "Check", s.p, commits, one)
}

// P9.3: shares of all values at the edges, with commitments at the edges, whether they hold or not.
func TestCheck(t *testing.T) {
	r := rand.New(rand.NewSource(212))
	for _, s := range settings(t) {
		for _, commits := range s.listsOfCommitments(r) {
			for _, v := range append(s.scalars(), s.scalar(r)) {
				s.checkCheck(t, commits, api.Share{I: 1 + r.Intn(255), V: v})
			}
		}
	}
}

// P9.3: each value with each index, of a small polynomial in the smallest group.
func TestCheckAll(t *testing.T) {
	s := least(t)
	poly := []api.Nat{{200}, {3}, {279}}
	commits := s.commitments(poly)
	for i := 1; i <= 255; i += 5 {
		want := s.value(poly, i)
		for v := range uint64(283) {
			holds := slices.Equal(s.reduced(api.Nat{v}), want)
			wantVerdict(t, share.Check(s.x, commits, api.Share{I: i, V: api.Nat{v}}), holds, "Check", i, v)
		}
	}
}

// P9.3, P9.6: a value that is one more or less, or 0, isn't accepted; one that is Qs more is, and one that is told with zeros.
func TestCheckOtherValues(t *testing.T) {
	r := rand.New(rand.NewSource(213))
	for _, s := range settings(t) {
		for _, poly := range s.polynomials(r) {
			i := 1 + r.Intn(255)
			right, commits := s.value(poly, i), s.commitments(poly)
			for _, same := range append(s.withQs(right), right, padded(right, 1), padded(right, 99)) {
				wantVerdict(t, share.Check(s.x, commits, api.Share{I: i, V: same}), true, "Check", s.p, poly, i, same)
			}
			more := plus(right, 1)
			for _, other := range append(s.withQs(more), more, padded(more, 2), plus(timesPlus(fromBig(s.q), api.Nat{1}, right), -1)) {
				wantVerdict(t, share.Check(s.x, commits, api.Share{I: i, V: other}), false, "Check", s.p, poly, i, other)
			}
		}
	}
}

// P9.3: a share of another polynomial, and one with another index, is accepted only where its value is the same.
func TestCheckOtherShares(t *testing.T) {
	r := rand.New(rand.NewSource(214))
	for _, s := range settings(t) {
		for _, n := range []int{1, 2, 3, 32} {
			poly := s.polynomial(r, n)
			commits := s.commitments(poly)
			for range 20 {
				i, j := 1+r.Intn(255), 1+r.Intn(255)
				moved := api.Share{I: j, V: s.value(poly, i)}
				wantVerdict(t, share.Check(s.x, commits, moved), slices.Equal(moved.V, s.value(poly, j)), "Check of another index", s.p, poly, i, j)
				another := slices.Clone(poly)
				another[r.Intn(n)] = s.scalar(r)
				other := s.share(another, i)
				wantVerdict(t, share.Check(s.x, commits, other), slices.Equal(other.V, s.value(poly, i)), "Check of another polynomial", s.p, poly, another, i)
			}
		}
	}
}

// P9.3: a share that holds doesn't hold once a commitment is another one, be it the last one, or one is missing.
func TestCheckOtherCommitments(t *testing.T) {
	r := rand.New(rand.NewSource(215))
	s := fourLimbs(t)
	for _, n := range []int{1, 2, 5, 32} {
		poly := s.polynomial(r, n)
		commits, one := s.commitments(poly), s.share(poly, 1+r.Intn(255))
		wantVerdict(t, share.Check(s.x, commits, one), true, "Check")
		for at := range commits {
			changed := slices.Clone(commits)
			changed[at] = s.mul(changed[at], api.Nat{4})
			wantVerdict(t, share.Check(s.x, changed, one), false, "Check with another commitment", n, at)
			if n > 1 {
				wantVerdict(t, share.Check(s.x, slices.Delete(slices.Clone(commits), at, at+1), one), false, "Check without a commitment", n, at)
			}
		}
		if n < 32 {
			wantVerdict(t, share.Check(s.x, append(slices.Clone(commits), api.Nat{1}), one), true, "Check with a coefficient 0", n)
			wantVerdict(t, share.Check(s.x, append(slices.Clone(commits), api.Nat{4}), one), false, "Check with a commitment more", n)
		}
	}
}

// refusedCheck checks that Public and Check are refused.
func refusedCheck(t *testing.T, s *setting, commits []api.Nat, one api.Share, want api.Code) {
	t.Helper()
	if got, err := share.Public(s.x, commits, one.I); got != nil || err != want {
		t.Fatalf("Public of %d commitments, %d: %x, %v", len(commits), one.I, got, err)
	}
	if err := share.Check(s.x, commits, one); err != want {
		t.Fatalf("Check of %d commitments, %x: %v", len(commits), one, err)
	}
}

// P9.3, P9.1: numbers of commitments and indices that may not be.
func TestCheckWrongNumbers(t *testing.T) {
	r := rand.New(rand.NewSource(216))
	for _, s := range settings(t) {
		for _, n := range []int{0, 33, 34, 256} {
			refusedCheck(t, s, s.commitments(s.polynomial(r, n)), api.Share{I: 1, V: api.Nat{1}}, api.ErrArg)
		}
		for _, i := range wrongIndices() {
			refusedCheck(t, s, s.commitments(s.polynomial(r, 1)), api.Share{I: i, V: api.Nat{1}}, api.ErrArg)
			refusedCheck(t, s, s.commitments(s.polynomial(r, 32)), api.Share{I: i, V: api.Nat{1}}, api.ErrArg)
		}
	}
}

// P9.3, P9.1: a commitment that is no element, in each place of lists of several lengths.
func TestCheckNoElements(t *testing.T) {
	r := rand.New(rand.NewSource(217))
	for _, s := range []*setting{least(t), small(t, 100547, 50273, api.Nat{4}), thirtyBits(t)} {
		for _, n := range []int{1, 2, 3, 32} {
			for at := range n {
				for _, other := range s.others() {
					commits := s.commitments(s.polynomial(r, n))
					commits[at] = other
					refusedCheck(t, s, commits, api.Share{I: 1 + r.Intn(255), V: s.scalar(r)}, api.ErrGroup)
				}
			}
		}
	}
}

// P9.3: each number below P as a commitment, in the smallest group: elements are factors, others are refused.
func TestPublicOfAllElements(t *testing.T) {
	s := least(t)
	for e := range uint64(563) {
		for _, i := range indicesAtEdges() {
			commits := []api.Nat{{9}, {e}}
			if !s.isElement(api.Nat{e}) {
				refusedCheck(t, s, commits, api.Share{I: i}, api.ErrGroup)
				continue
			}
			got, err := share.Public(s.x, commits, i)
			wantNumber(t, got, err, s.public(commits, i), "Public", e, i)
		}
	}
}
