package mix_test

import (
	"math/big"
	"math/rand"
	"slices"
	"testing"

	"treenail/api"
	"treenail/group"
)

const ones = 1<<64 - 1

// one is the number 1 of the means by which the tests reckon.
var one = big.NewInt(1)

// full is the number of n limbs with all bits set.
func full(n int) api.Nat { return slices.Repeat(api.Nat{ones}, n) }

// power is 2^(64 n): a number of n + 1 limbs.
func power(n int) api.Nat { return append(make(api.Nat, n), 1) }

// padded is a number told with n zeros at its end.
func padded(a api.Nat, n int) api.Nat { return append(slices.Clone(a), make(api.Nat, n)...) }

// toBig reads a number by means that have nothing to do with the package.
func toBig(a api.Nat) *big.Int {
	z := new(big.Int)
	for _, limb := range slices.Backward(a) {
		z.Lsh(z, 64).Or(z, new(big.Int).SetUint64(limb))
	}
	return z
}

// fromBig tells a number in limbs, without zeros at the end.
func fromBig(z *big.Int) api.Nat {
	var a api.Nat
	low := new(big.Int).SetUint64(ones)
	for z = new(big.Int).Set(z); z.Sign() > 0; z.Rsh(z, 64) {
		a = append(a, new(big.Int).And(z, low).Uint64())
	}
	return a
}

// plus is a number and a small one, which may be below 0.
func plus(a api.Nat, k int64) api.Nat { return fromBig(new(big.Int).Add(toBig(a), big.NewInt(k))) }

// timesPlus is a times b, plus c.
func timesPlus(a, b, c api.Nat) api.Nat {
	z := new(big.Int).Mul(toBig(a), toBig(b))
	return fromBig(z.Add(z, toBig(c)))
}

// stepTo is a step from Q to a prime P, with the least witness.
func stepTo(p, q *big.Int) api.Step {
	root := new(big.Int).Div(new(big.Int).Sub(p, one), q)
	for a := big.NewInt(2); ; a.Add(a, one) {
		less := new(big.Int).Exp(a, root, p)
		if less.Sub(less, one); new(big.Int).GCD(nil, nil, less, p).Cmp(one) == 0 {
			return api.Step{P: fromBig(p), Q: fromBig(q), A: fromBig(a)}
		}
	}
}

// great is a group whose Q is found by so many steps from a small prime, and a last one; its G is 4.
func great(steps int, last [2]int64) api.Group {
	// Of each prime about how many bits it has, less one, and which factor of the prime before it makes one: found once, since the search is long.
	rows := [][2]int64{{30, 19}, {58, 14}, {114, 10}, {226, 51}, {450, 502}, {898, 76}, {1040, 262}}
	var chain []api.Step
	q := big.NewInt(65521)
	for _, row := range append(slices.Clone(rows[:steps]), last) {
		factor := new(big.Int).Lsh(one, uint(row[0])-uint(q.BitLen())+1)
		factor.Add(factor, big.NewInt(2*row[1]))
		p := new(big.Int).Add(factor.Mul(factor, q), one)
		chain = append(chain, stepTo(p, q))
		q = p
	}
	safe := new(big.Int).Add(new(big.Int).Lsh(q, 1), one)
	chain = append(chain, stepTo(safe, q))
	slices.Reverse(chain)
	return api.Group{G: api.Nat{4}, Chain: chain}
}

// setting is a group with what reckons in it by means that have nothing to do with the packages.
type setting struct {
	x       *group.Group
	p, q, g *big.Int
}

// made is the setting of a group.
func made(t *testing.T, g api.Group) *setting {
	t.Helper()
	x, err := group.New(g)
	if err != nil {
		t.Fatal(err)
	}
	return &setting{x, toBig(g.Chain[0].P), toBig(g.Chain[0].Q), toBig(g.G)}
}

// small is the group of a prime with one step.
func small(t *testing.T, p, q uint64, g api.Nat) *setting {
	t.Helper()
	return made(t, api.Group{G: g, Chain: []api.Step{{P: api.Nat{p}, Q: api.Nat{q}, A: api.Nat{2}}}})
}

// least is the smallest group that can represent a byte.
func least(t *testing.T) *setting { return small(t, 563, 281, api.Nat{4}) }

// chapters is the group of the chapter's examples: 2 is no element of it.
func chapters(t *testing.T) *setting { return small(t, 100547, 50273, api.Nat{4}) }

// thirtyBits is the group of the whole system's examples.
func thirtyBits(t *testing.T) *setting {
	t.Helper()
	return made(t, api.Group{G: api.Nat{4}, Chain: []api.Step{
		{P: api.Nat{895270319}, Q: api.Nat{447635159}, A: api.Nat{2}},
		{P: api.Nat{447635159}, Q: api.Nat{45949}, A: api.Nat{2}},
	}})
}

// fourLimbs is a group of 256 bits.
func fourLimbs(t *testing.T) *setting { return made(t, great(4, [2]int64{255, 10626})) }

// greatest is a group of 2048 bits.
func greatest(t *testing.T) *setting { return made(t, great(7, [2]int64{2046, 1954353})) }

// settings are groups from 10 bits to 256, one of them with a G that isn't 4.
func settings(t *testing.T) []*setting {
	t.Helper()
	return []*setting{least(t), chapters(t), small(t, 100547, 50273, api.Nat{9}), thirtyBits(t), fourLimbs(t)}
}

// exp is a to the s.
func (s *setting) exp(a, e api.Nat) api.Nat {
	return fromBig(new(big.Int).Exp(toBig(a), toBig(e), s.p))
}

// base is G to the s.
func (s *setting) base(e api.Nat) api.Nat { return s.exp(fromBig(s.g), e) }

// mul is a times b.
func (s *setting) mul(a, b api.Nat) api.Nat {
	z := new(big.Int).Mul(toBig(a), toBig(b))
	return fromBig(z.Mod(z, s.p))
}

// over is a divided by b.
func (s *setting) over(a, b api.Nat) api.Nat {
	return s.mul(a, fromBig(new(big.Int).ModInverse(toBig(b), s.p)))
}

// sum is the residue modulo Q of numbers added up.
func (s *setting) sum(l ...api.Nat) api.Nat {
	z := new(big.Int)
	for _, a := range l {
		z.Add(z, toBig(a))
	}
	return fromBig(z.Mod(z, s.q))
}

// less is the residue modulo Q of a less b.
func (s *setting) less(a, b api.Nat) api.Nat {
	z := new(big.Int).Sub(toBig(a), toBig(b))
	return fromBig(z.Mod(z, s.q))
}

// isElement tells, by the symbol of Jacobi, whether a number is an element.
func (s *setting) isElement(a api.Nat) bool {
	z := toBig(a)
	return z.Sign() > 0 && z.Cmp(s.p) < 0 && big.Jacobi(z, s.p) == 1
}

// seal is what P7.2 says of each pair.
func (s *setting) seal(key api.Nat, m, r []api.Nat) []api.Pair {
	l := make([]api.Pair, len(m))
	for i := range m {
		l[i] = api.Pair{A: s.base(r[i]), B: s.mul(m[i], s.exp(key, r[i])), C: api.Nat{1}}
	}
	return l
}

// anew is what P7.3 says of each pair.
func (s *setting) anew(key api.Nat, l []api.Pair, r []api.Nat) []api.Pair {
	z := make([]api.Pair, len(l))
	for i, p := range l {
		z[i] = api.Pair{A: s.mul(p.A, s.base(r[i])), B: s.mul(p.B, s.exp(key, r[i])), C: fromBig(toBig(p.C))}
	}
	return z
}

// mix is what P7.4 says of each letter.
func (s *setting) mix(key api.Nat, b [][]api.Pair, perm []int, r [][]api.Nat) [][]api.Pair {
	z := make([][]api.Pair, len(b))
	for i := range b {
		z[i] = s.anew(key, b[perm[i]], r[i])
	}
	return z
}

// strip is what P7.5 says of each pair.
func (s *setting) strip(secret, next api.Nat, l []api.Pair, r []api.Nat) []api.Pair {
	z := make([]api.Pair, len(l))
	for i, p := range l {
		b := s.mul(s.over(p.B, s.exp(p.A, secret)), s.exp(next, r[i]))
		z[i] = api.Pair{A: fromBig(toBig(p.A)), B: b, C: s.mul(p.C, s.base(r[i]))}
	}
	return z
}

// elements are elements at the edges: the least and the greatest, G, with zeros at the end and without.
func (s *setting) elements() []api.Nat {
	top := fromBig(new(big.Int).Sub(s.p, one))
	for !s.isElement(top) {
		top = plus(top, -1)
	}
	return []api.Nat{{1}, {4}, top, fromBig(s.g), {9, 0}, padded(api.Nat{1}, 3), padded(top, 1), padded(api.Nat{16}, 70)}
}

// others are numbers that are no elements, many of them with the residues of elements.
func (s *setting) others() []api.Nat {
	p := fromBig(s.p)
	return []api.Nat{
		nil, {0, 0}, plus(p, -1), plus(p, -4), padded(plus(p, -1), 2), p, padded(p, 1), plus(p, 1), plus(p, 4),
		timesPlus(p, api.Nat{2}, api.Nat{4}), timesPlus(p, full(64-len(p)), api.Nat{1}), full(64), power(64), full(65), timesPlus(p, full(65), api.Nat{4}),
	}
}

// scalars are scalars at the edges: 0, Q, more than Q, of 64 limbs, with zeros at the end.
func (s *setting) scalars() []api.Nat {
	q := fromBig(s.q)
	return []api.Nat{
		nil, {0}, {0, 0}, make(api.Nat, 70), {1}, {2, 0}, plus(q, -1), q, padded(q, 1), padded(q, 70), plus(q, 1),
		timesPlus(q, api.Nat{2}, api.Nat{5}), fromBig(s.p), full(2), full(63), power(63), full(64), padded(full(64), 1), padded(full(64), 9),
	}
}

// longScalars are scalars of more than 64 limbs.
func longScalars() []api.Nat { return []api.Nat{power(64), full(65), padded(full(65), 2), full(500)} }

// scalar is any scalar.
func (s *setting) scalar(r *rand.Rand) api.Nat { return fromBig(new(big.Int).Rand(r, s.q)) }

// element is any element.
func (s *setting) element(r *rand.Rand) api.Nat { return s.base(s.scalar(r)) }

// anyScalars are n scalars, at the edges or anywhere.
func (s *setting) anyScalars(r *rand.Rand, n int) []api.Nat {
	edges := s.scalars()
	return several(n, func() api.Nat {
		if k := r.Intn(len(edges) + 6); k < len(edges) {
			return slices.Clone(edges[k])
		}
		return s.scalar(r)
	})
}

// anyElements are n elements, at the edges or anywhere.
func (s *setting) anyElements(r *rand.Rand, n int) []api.Nat {
	edges := s.elements()
	return several(n, func() api.Nat {
		if k := r.Intn(2 * len(edges)); k < len(edges) {
			return slices.Clone(edges[k])
		}
		return s.element(r)
	})
}

// anyLetter is a letter of n pairs of any elements, which need not have been sealed.
func (s *setting) anyLetter(r *rand.Rand, n int) []api.Pair {
	return several(n, func() api.Pair {
		m := s.anyElements(r, 3)
		return api.Pair{A: m[0], B: m[1], C: m[2]}
	})
}

// anyBatch is a batch of n letters of so many pairs.
func (s *setting) anyBatch(r *rand.Rand, n, parts int) [][]api.Pair {
	return several(n, func() []api.Pair { return s.anyLetter(r, parts) })
}

// anyLists are n lists of so many scalars.
func (s *setting) anyLists(r *rand.Rand, n, parts int) [][]api.Nat {
	return several(n, func() []api.Nat { return s.anyScalars(r, parts) })
}

// several is a list of n things.
func several[E any](n int, thing func() E) []E {
	l := make([]E, n)
	for i := range l {
		l[i] = thing()
	}
	return l
}

// samePair tells whether two pairs are told in the same limbs.
func samePair(a, b api.Pair) bool {
	return slices.Equal(a.A, b.A) && slices.Equal(a.B, b.B) && slices.Equal(a.C, b.C)
}

// sameLetter tells whether two letters are told in the same limbs.
func sameLetter(a, b []api.Pair) bool { return slices.EqualFunc(a, b, samePair) }

// sameBatch tells whether two batches are told in the same limbs.
func sameBatch(a, b [][]api.Pair) bool { return slices.EqualFunc(a, b, sameLetter) }

// sameNumbers tells whether two lists of numbers are told in the same limbs.
func sameNumbers(a, b []api.Nat) bool { return slices.EqualFunc(a, b, slices.Equal[api.Nat]) }

// wantLetter checks a letter that a call answers.
func wantLetter(t *testing.T, got []api.Pair, err error, want []api.Pair, what string, with ...any) {
	t.Helper()
	if err != nil || !sameLetter(got, want) {
		t.Fatalf("%s %x is %x, %v, not %x", what, with, got, err, want)
	}
}

// wantBatch checks a batch that a call answers.
func wantBatch(t *testing.T, got [][]api.Pair, err error, want [][]api.Pair, what string, with ...any) {
	t.Helper()
	if err != nil || !sameBatch(got, want) {
		t.Fatalf("%s %x is %x, %v, not %x", what, with, got, err, want)
	}
}

// wantError checks that an error is the code itself, and that the list beside it is empty.
func wantError[E any](t *testing.T, got []E, err error, want api.Code, what string, with ...any) {
	t.Helper()
	if err != want || len(got) != 0 {
		t.Fatalf("%s %x is %v and error %v, not %v", what, with, got, err, want)
	}
}

// parts are numbers of pairs that a letter may have.
func parts() []int { return []int{1, 2, 3, 31, api.MaxParts} }

// wrongParts are numbers of pairs that a letter may not have.
func wrongParts() []int { return []int{0, 33, 34, 100} }
