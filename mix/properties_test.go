package mix_test

import (
	"math/rand"
	"slices"
	"testing"

	"treenail/api"
	"treenail/mix"
)

// shares are n scalars, told modulo Q or not, and G to the power of their sum.
func (s *setting) shares(r *rand.Rand, n int) ([]api.Nat, api.Nat) {
	l := s.anyScalars(r, n)
	return l, s.base(s.sum(l...))
}

// sealed is a letter of the package's own making, sealed anew so many times.
func (s *setting) sealed(t *testing.T, r *rand.Rand, key api.Nat, m []api.Nat, times int) []api.Pair {
	t.Helper()
	l, err := mix.Seal(s.x, key, m, s.anyScalars(r, len(m)))
	for range times {
		if err != nil {
			t.Fatal(err)
		}
		l, err = mix.Anew(s.x, key, l, s.anyScalars(r, len(m)))
	}
	if err != nil {
		t.Fatal(err)
	}
	return l
}

// strippedBy is a letter stripped by all shares in their order, and for each pair the sum of the scalars by which it was sealed to the next key.
func (s *setting) strippedBy(t *testing.T, shares []api.Nat, next api.Nat, l []api.Pair, scalars func() []api.Nat) ([]api.Pair, []api.Nat) {
	t.Helper()
	sums := make([]api.Nat, len(l))
	for _, secret := range shares {
		r := scalars()
		var err error
		if l, err = mix.Strip(s.x, secret, next, l, r); err != nil {
			t.Fatal(err)
		}
		for i := range sums {
			sums[i] = s.sum(sums[i], r[i])
		}
	}
	return l, sums
}

// eachWay goes through groups, lengths of letters, numbers of shares and of times that a letter is sealed anew.
func eachWay(t *testing.T, try func(s *setting, parts, shares, times int)) {
	t.Helper()
	for _, s := range settings(t) {
		for _, parts := range []int{1, 2, 5} {
			for shares := 1; shares <= 4; shares++ {
				for times := range 4 {
					try(s, parts, shares, times)
				}
			}
		}
	}
	try(thirtyBits(t), api.MaxParts, 2, 10)
	try(greatest(t), 1, 2, 1)
}

// P7.8: a letter that was sealed, sealed anew any number of times, and stripped by all shares opens as what was sealed.
func TestOpensAsSealed(t *testing.T) {
	r := rand.New(rand.NewSource(110))
	eachWay(t, func(s *setting, parts, n, times int) {
		shares, key := s.shares(r, n)
		m := s.anyElements(r, parts)
		l := s.sealed(t, r, key, m, times)
		l, _ = s.strippedBy(t, shares, api.Nat{1}, l, func() []api.Nat { return make([]api.Nat, parts) })
		got, err := mix.Open(s.x, l)
		if err != nil || !slices.EqualFunc(got, m, func(a, b api.Nat) bool { return toBig(a).Cmp(toBig(b)) == 0 }) {
			t.Fatalf("%x opens as %x, %v", m, got, err)
		}
		for _, p := range l {
			if !slices.Equal(p.C, api.Nat{1}) {
				t.Fatalf("C is %x", p.C)
			}
		}
	})
}

// P7.8: a letter that was stripped by all shares but one doesn't open as what was sealed.
func TestAllSharesAreNeeded(t *testing.T) {
	r := rand.New(rand.NewSource(111))
	s := fourLimbs(t)
	shares := []api.Nat{s.scalar(r), s.scalar(r), s.scalar(r)}
	m := []api.Nat{s.element(r), s.element(r)}
	for without := range shares {
		l := s.sealed(t, r, s.base(s.sum(shares...)), m, 1)
		l, _ = s.strippedBy(t, slices.Delete(slices.Clone(shares), without, without+1), api.Nat{1}, l, func() []api.Nat { return make([]api.Nat, 2) })
		got, err := mix.Open(s.x, l)
		if err != nil || sameNumbers(got, m) {
			t.Errorf("without share %d: %x, %v", without, got, err)
		}
	}
}

// P7.8: a letter that was stripped towards a next key and turned is a letter sealed to that key, by the sum of the scalars; and so on to a further key, at which it opens as what was sealed.
func TestTurnedIsSealed(t *testing.T) {
	r := rand.New(rand.NewSource(112))
	eachWay(t, func(s *setting, parts, n, times int) {
		shares, key := s.shares(r, n)
		m := s.anyElements(r, parts)
		l := s.sealed(t, r, key, m, times)
		for range 2 {
			nextShares, next := s.shares(r, n)
			stripped, sums := s.strippedBy(t, shares, next, l, func() []api.Nat { return s.anyScalars(r, parts) })
			turned, err := mix.Turn(s.x, stripped)
			want, errSeal := mix.Seal(s.x, next, m, sums)
			if err != nil || errSeal != nil || !sameLetter(turned, want) {
				t.Fatalf("turned %x, not %x; %v, %v", turned, want, err, errSeal)
			}
			l, shares = turned, nextShares
		}
		l, _ = s.strippedBy(t, shares, api.Nat{1}, l, func() []api.Nat { return make([]api.Nat, parts) })
		got, err := mix.Open(s.x, l)
		if err != nil || !slices.EqualFunc(got, m, func(a, b api.Nat) bool { return toBig(a).Cmp(toBig(b)) == 0 }) {
			t.Fatalf("%x opens as %x, %v", m, got, err)
		}
	})
}

// P7.8: letters that are mixed by several servers, then stripped, open as what was sealed, in the order of the permutations.
func TestBatchOpensAsSealed(t *testing.T) {
	r := rand.New(rand.NewSource(113))
	for _, s := range settings(t) {
		shares, key := s.shares(r, 3)
		var b [][]api.Pair
		var said [][]api.Nat
		for range 6 {
			said = append(said, []api.Nat{s.element(r), s.element(r)})
			b = append(b, s.sealed(t, r, key, said[len(said)-1], 0))
		}
		for range 3 {
			perm, before := r.Perm(6), slices.Clone(said)
			var err error
			if b, err = mix.Mix(s.x, key, b, perm, s.anyLists(r, 6, 2)); err != nil {
				t.Fatal(err)
			}
			for i, from := range perm {
				said[i] = before[from]
			}
		}
		for i, l := range b {
			l, _ = s.strippedBy(t, shares, api.Nat{1}, l, func() []api.Nat { return make([]api.Nat, 2) })
			if got, err := mix.Open(s.x, l); err != nil || !sameNumbers(got, said[i]) {
				t.Fatalf("letter %d opens as %x, not %x; %v", i, got, said[i], err)
			}
		}
	}
}

// exchanged is the permutation and the scalars that make up for an exchange of what letters i and j say, which were sealed by the scalars sealing.
func (s *setting) exchanged(i, j int, perm []int, lists, sealing [][]api.Nat) ([]int, [][]api.Nat) {
	newPerm, newLists := slices.Clone(perm), slices.Clone(lists)
	p, q := slices.Index(perm, i), slices.Index(perm, j)
	newPerm[p], newPerm[q] = j, i
	moved := func(place, from, to int) {
		newLists[place] = make([]api.Nat, len(lists[place]))
		for k, r := range lists[place] {
			newLists[place][k] = s.less(s.sum(r, sealing[from][k]), sealing[to][k])
		}
	}
	moved(p, i, j)
	moved(q, j, i)
	return newPerm, newLists
}

// P7.9: a batch in which two letters have exchanged what they say mixes to the same bytes, with the permutation and the scalars that make up for it: every two letters of a batch, by every permutation of few letters and by some of many.
func TestAnonymity(t *testing.T) {
	r := rand.New(rand.NewSource(114))
	same := func(s *setting, n, parts int, perm []int) {
		t.Helper()
		key := s.element(r)
		m, sealing, lists := several(n, func() []api.Nat { return s.anyElements(r, parts) }), s.anyLists(r, n, parts), s.anyLists(r, n, parts)
		want, err := mix.Mix(s.x, key, s.sealAll(t, key, m, sealing), perm, lists)
		if err != nil {
			t.Fatal(err)
		}
		for j := range n {
			for i := range j {
				other := slices.Clone(m)
				other[i], other[j] = m[j], m[i]
				newPerm, newLists := s.exchanged(i, j, perm, lists, sealing)
				got, err := mix.Mix(s.x, key, s.sealAll(t, key, other, sealing), newPerm, newLists)
				wantBatch(t, got, err, want, "Mix", s.p, i, j, perm, newPerm)
			}
		}
	}
	for _, s := range settings(t) {
		for n := 2; n <= 4; n++ {
			for _, perm := range permutations(n) {
				same(s, n, 1, perm)
			}
		}
		same(s, 6, 3, r.Perm(6))
	}
	same(least(t), 16, 2, r.Perm(16))
}

// sealAll is a batch of letters, each sealed with its own scalars.
func (s *setting) sealAll(t *testing.T, key api.Nat, m, sealing [][]api.Nat) [][]api.Pair {
	t.Helper()
	b := make([][]api.Pair, len(m))
	for i := range m {
		l, err := mix.Seal(s.x, key, m[i], sealing[i])
		if err != nil {
			t.Fatal(err)
		}
		b[i] = l
	}
	return b
}

// R3, and the package's own: the same call answers the same, whatever was called between.
func TestSameCallSameAnswer(t *testing.T) {
	r := rand.New(rand.NewSource(115))
	for _, s := range settings(t) {
		a := s.right(r)
		var first [][]api.Nat
		for _, c := range calls() {
			got, err := c.run(a)
			if err != nil {
				t.Fatal(err)
			}
			first = append(first, got)
		}
		for range 5 {
			other := s.right(r)
			other.key = nil
			for i, c := range calls() {
				c.run(other)
				if got, err := c.run(a); err != nil || !sameNumbers(got, first[i]) {
					t.Fatalf("%s: %x, then %x, %v", c.name, first[i], got, err)
				}
			}
		}
	}
}
