package share_test

import (
	"math"
	"math/big"
	"math/rand"
	"slices"
	"testing"

	"treenail/api"
	"treenail/group"
)

const ones = 1<<64 - 1

// one is the number 1 of the means by which the tests reckon.
var one = big.NewInt(1)

// full is the number of n limbs with all bits set.
func full(n int) api.Nat { return slices.Repeat(api.Nat{ones}, n) }

// power is 2^(64 n): a number of n + 1 limbs.
func power(n int) api.Nat { return append(make(api.Nat, n), 1) }

// padded is a number told with n zeros at its end.
func padded(a api.Nat, n int) api.Nat { return append(slices.Clone(a), make(api.Nat, n)...) }

// toBig reads a number by means that have nothing to do with the package.
func toBig(a api.Nat) *big.Int {
	z := new(big.Int)
	for _, limb := range slices.Backward(a) {
		z.Lsh(z, 64).Or(z, new(big.Int).SetUint64(limb))
	}
	return z
}

// fromBig tells a number in limbs, without zeros at the end.
func fromBig(z *big.Int) api.Nat {
	var a api.Nat
	low := new(big.Int).SetUint64(ones)
	for z = new(big.Int).Set(z); z.Sign() > 0; z.Rsh(z, 64) {
		a = append(a, new(big.Int).And(z, low).Uint64())
	}
	return a
}

// plus is a number and a small one, which may be below 0.
func plus(a api.Nat, k int64) api.Nat { return fromBig(new(big.Int).Add(toBig(a), big.NewInt(k))) }

// timesPlus is a times b, plus c.
func timesPlus(a, b, c api.Nat) api.Nat {
	z := new(big.Int).Mul(toBig(a), toBig(b))
	return fromBig(z.Add(z, toBig(c)))
}

// stepTo is a step from Q to a prime P, with the least witness.
func stepTo(p, q *big.Int) api.Step {
	root := new(big.Int).Div(new(big.Int).Sub(p, one), q)
	for a := big.NewInt(2); ; a.Add(a, one) {
		less := new(big.Int).Exp(a, root, p)
		if less.Sub(less, one); new(big.Int).GCD(nil, nil, less, p).Cmp(one) == 0 {
			return api.Step{P: fromBig(p), Q: fromBig(q), A: fromBig(a)}
		}
	}
}

// great is a group whose Q is found from a small prime on; its G is 4. A row tells of a prime about how many bits it has, less one, and which factor of the prime before it makes one: found once, since the search is long.
func great(rows ...[2]int64) api.Group {
	var chain []api.Step
	q := big.NewInt(65521)
	for _, row := range rows {
		factor := new(big.Int).Lsh(one, uint(row[0])-uint(q.BitLen())+1)
		factor.Add(factor, big.NewInt(2*row[1]))
		p := new(big.Int).Add(factor.Mul(factor, q), one)
		chain = append(chain, stepTo(p, q))
		q = p
	}
	safe := new(big.Int).Add(new(big.Int).Lsh(q, 1), one)
	chain = append(chain, stepTo(safe, q))
	slices.Reverse(chain)
	return api.Group{G: api.Nat{4}, Chain: chain}
}

// setting is a group with what reckons in it by means that have nothing to do with the packages.
type setting struct {
	x       *group.Group
	p, q, g *big.Int
}

// made is the setting of a group.
func made(t *testing.T, g api.Group) *setting {
	t.Helper()
	x, err := group.New(g)
	if err != nil {
		t.Fatal(err)
	}
	return &setting{x, toBig(g.Chain[0].P), toBig(g.Chain[0].Q), toBig(g.G)}
}

// small is the group of a prime with one step.
func small(t *testing.T, p, q uint64, g api.Nat) *setting {
	t.Helper()
	return made(t, api.Group{G: g, Chain: []api.Step{{P: api.Nat{p}, Q: api.Nat{q}, A: api.Nat{2}}}})
}

// least is the smallest group that can represent a byte: its Q is above all indices, by 26.
func least(t *testing.T) *setting { return small(t, 563, 281, api.Nat{4}) }

// thirtyBits is the group of the whole system's examples.
func thirtyBits(t *testing.T) *setting {
	t.Helper()
	return made(t, api.Group{G: api.Nat{4}, Chain: []api.Step{
		{P: api.Nat{895270319}, Q: api.Nat{447635159}, A: api.Nat{2}},
		{P: api.Nat{447635159}, Q: api.Nat{45949}, A: api.Nat{2}},
	}})
}

// fourLimbs is a group of 256 bits.
func fourLimbs(t *testing.T) *setting {
	return made(t, great([2]int64{30, 19}, [2]int64{58, 14}, [2]int64{114, 10}, [2]int64{226, 51}, [2]int64{255, 10626}))
}

// greatest is a group of 2048 bits.
func greatest(t *testing.T) *setting {
	return made(t, great(
		[2]int64{30, 19}, [2]int64{58, 14}, [2]int64{114, 10}, [2]int64{226, 51}, [2]int64{450, 502},
		[2]int64{898, 76}, [2]int64{1040, 262}, [2]int64{2046, 1954353},
	))
}

// settings are groups of 10, 16, 17, 30, 65 and 256 bits: of the first ones, Q is above the indices by little; one has a G that isn't 4.
func settings(t *testing.T) []*setting {
	t.Helper()
	return []*setting{
		least(t), small(t, 587, 293, api.Nat{4}), small(t, 719, 359, api.Nat{4}), small(t, 32843, 16421, api.Nat{4}),
		small(t, 100547, 50273, api.Nat{4}), small(t, 100547, 50273, api.Nat{9}), thirtyBits(t),
		made(t, great([2]int64{30, 19}, [2]int64{44, 11}, [2]int64{63, 1195})), fourLimbs(t),
	}
}

// exp is a to the s.
func (s *setting) exp(a, e api.Nat) api.Nat {
	return fromBig(new(big.Int).Exp(toBig(a), toBig(e), s.p))
}

// base is G to the s.
func (s *setting) base(e api.Nat) api.Nat { return s.exp(fromBig(s.g), e) }

// mul is a times b.
func (s *setting) mul(a, b api.Nat) api.Nat {
	z := new(big.Int).Mul(toBig(a), toBig(b))
	return fromBig(z.Mod(z, s.p))
}

// isElement tells, by the symbol of Jacobi, whether a number is an element.
func (s *setting) isElement(a api.Nat) bool {
	z := toBig(a)
	return z.Sign() > 0 && z.Cmp(s.p) < 0 && big.Jacobi(z, s.p) == 1
}

// elements are elements at the edges: the least and the greatest, G, with zeros at the end and without.
func (s *setting) elements() []api.Nat {
	top := fromBig(new(big.Int).Sub(s.p, one))
	for !s.isElement(top) {
		top = plus(top, -1)
	}
	return []api.Nat{{1}, {4}, top, fromBig(s.g), {9, 0}, padded(api.Nat{1}, 3), padded(top, 1), padded(api.Nat{16}, 70)}
}

// others are numbers that are no elements, many of them with the residues of elements.
func (s *setting) others() []api.Nat {
	p := fromBig(s.p)
	return []api.Nat{
		nil, {0, 0}, plus(p, -1), plus(p, -4), padded(plus(p, -1), 2), p, padded(p, 1), plus(p, 1), plus(p, 4),
		timesPlus(p, api.Nat{2}, api.Nat{4}), timesPlus(p, full(64-len(p)), api.Nat{1}), full(64), power(64), full(65), timesPlus(p, full(65), api.Nat{4}),
	}
}

// scalars are scalars at the edges: 0, Q, more than Q, of 64 limbs, with zeros at the end.
func (s *setting) scalars() []api.Nat {
	q := fromBig(s.q)
	return []api.Nat{
		nil, {0}, {0, 0}, make(api.Nat, 70), {1}, {2, 0}, plus(q, -1), q, padded(q, 1), padded(q, 70), plus(q, 1),
		timesPlus(q, api.Nat{2}, api.Nat{5}), fromBig(s.p), full(2), full(63), power(63), full(64), padded(full(64), 1), padded(full(64), 9),
	}
}

// longScalars are scalars of more than 64 limbs.
func longScalars() []api.Nat { return []api.Nat{power(64), full(65), padded(full(65), 2), full(500)} }

// scalar is any scalar.
func (s *setting) scalar(r *rand.Rand) api.Nat { return fromBig(new(big.Int).Rand(r, s.q)) }

// withQs is a scalar with Qs more: one, two, and as many as 64 limbs hold.
func (s *setting) withQs(a api.Nat) []api.Nat {
	q := fromBig(s.q)
	all := new(big.Int).Sub(toBig(full(64)), toBig(a))
	return []api.Nat{timesPlus(q, api.Nat{1}, a), padded(timesPlus(q, api.Nat{2}, a), 1), timesPlus(q, fromBig(all.Div(all, s.q)), a)}
}

// polynomial is any polynomial of n coefficients.
func (s *setting) polynomial(r *rand.Rand, n int) []api.Nat {
	l := make([]api.Nat, n)
	for k := range l {
		l[k] = s.scalar(r)
	}
	return l
}

// polynomials are polynomials at the edges: of 1 coefficient and of 32, with scalars at the edges in all places, with a last coefficient that is 0, of nothing but zeros.
func (s *setting) polynomials(r *rand.Rand) [][]api.Nat {
	l := [][]api.Nat{
		{{7}, {2}}, {nil}, {{0, 0}}, {nil, nil, nil}, {{5}, {0}, {3}, {1}}, {{5}, {1}, nil}, {nil, {1}}, {{1}, {0, 0, 0}},
		s.polynomial(r, 1), s.polynomial(r, 2), s.polynomial(r, 31), s.polynomial(r, 32), make([]api.Nat, 32), slices.Repeat([]api.Nat{full(64)}, 32),
		append(s.polynomial(r, 31), nil), s.scalars(),
	}
	for _, edge := range s.scalars() {
		l = append(l, []api.Nat{edge}, []api.Nat{edge, s.scalar(r), s.scalar(r)}, []api.Nat{s.scalar(r), edge}, []api.Nat{s.scalar(r), edge, s.scalar(r)})
	}
	return l
}

// value is what the chapter's definitions say of the value of a polynomial: a sum of products by powers of i.
func (s *setting) value(poly []api.Nat, i int) api.Nat {
	z, at := new(big.Int), big.NewInt(int64(i))
	for k, c := range poly {
		power := new(big.Int).Exp(at, big.NewInt(int64(k)), nil)
		z.Add(z, power.Mul(power, toBig(c)))
	}
	return fromBig(z.Mod(z, s.q))
}

// share is the share of a polynomial with an index.
func (s *setting) share(poly []api.Nat, i int) api.Share { return api.Share{I: i, V: s.value(poly, i)} }

// shares are the shares of a polynomial with several indices.
func (s *setting) shares(poly []api.Nat, places ...int) []api.Share {
	l := make([]api.Share, len(places))
	for k, i := range places {
		l[k] = s.share(poly, i)
	}
	return l
}

// commitments are what the chapter's definitions say of them.
func (s *setting) commitments(poly []api.Nat) []api.Nat {
	l := make([]api.Nat, len(poly))
	for k, c := range poly {
		l[k] = s.base(c)
	}
	return l
}

// public is what P9.3 says of Public: the exponents are as great as they come.
func (s *setting) public(commits []api.Nat, i int) api.Nat {
	z, at := api.Nat{1}, big.NewInt(int64(i))
	for j, c := range commits {
		z = s.mul(z, s.exp(c, fromBig(new(big.Int).Exp(at, big.NewInt(int64(j)), nil))))
	}
	return z
}

// weight is what P9.4 says of Weight: both products are as great as they come, and the lower one may be below 0.
func (s *setting) weight(places []int, i int) api.Nat {
	above, below := big.NewInt(1), big.NewInt(1)
	for _, j := range places {
		if j != i {
			above.Mul(above, big.NewInt(int64(j)))
			below.Mul(below, big.NewInt(int64(j-i)))
		}
	}
	z := new(big.Int).ModInverse(below, s.q)
	return fromBig(z.Mod(z.Mul(z, above), s.q))
}

// combine is what P9.4 says of Combine.
func (s *setting) combine(l []api.Share) api.Nat {
	z := new(big.Int)
	for _, one := range l {
		z.Add(z, new(big.Int).Mul(toBig(one.V), toBig(s.weight(placesOf(l), one.I))))
	}
	return fromBig(z.Mod(z, s.q))
}

// reduced is a number modulo Q.
func (s *setting) reduced(a api.Nat) api.Nat { return fromBig(new(big.Int).Mod(toBig(a), s.q)) }

// placesOf are the indices of shares.
func placesOf(l []api.Share) []int {
	places := make([]int, len(l))
	for k, one := range l {
		places[k] = one.I
	}
	return places
}

// upTo are the indices from 1 to n.
func upTo(n int) []int {
	l := make([]int, n)
	for k := range l {
		l[k] = k + 1
	}
	return l
}

// someOf are n of the indices, in any order.
func someOf(r *rand.Rand, n int) []int {
	l := r.Perm(255)[:n]
	for k := range l {
		l[k]++
	}
	return l
}

// listsOfPlaces are lists of indices at the edges: one index, all of them, upwards and downwards and in any order.
func listsOfPlaces(r *rand.Rand) [][]int {
	down := upTo(255)
	slices.Reverse(down)
	l := [][]int{{1}, {2}, {255}, {1, 2}, {2, 1}, {1, 255}, {255, 1}, {254, 255}, {3, 1, 2}, {255, 1, 100}, {9, 200, 7, 255, 1, 128}, upTo(255), down, upTo(254)}
	for _, n := range []int{1, 2, 3, 5, 8, 33, 100, 254, 255} {
		l = append(l, someOf(r, n))
	}
	return l
}

// wrongIndices are no indices of shares, though many of them are some modulo 2^8, 2^16, 2^32 or a small Q.
func wrongIndices() []int {
	return []int{0, -1, 256, 257, -255, 281, 282, 65537, 1<<32 + 1, -1 << 32, 1 - 1<<32, math.MaxInt, math.MaxInt - 1, math.MinInt, math.MinInt + 1}
}

// sameNumbers tells whether two lists of numbers are told in the same limbs.
func sameNumbers(a, b []api.Nat) bool {
	return slices.EqualFunc(a, b, func(m, n api.Nat) bool { return slices.Equal(m, n) })
}

// sameShares tells whether two lists of shares are told in the same limbs.
func sameShares(a, b []api.Share) bool {
	return slices.EqualFunc(a, b, func(m, n api.Share) bool { return m.I == n.I && slices.Equal(m.V, n.V) })
}

// wantNumber checks a number that a call answers.
func wantNumber(t *testing.T, got api.Nat, err error, want api.Nat, what string, with ...any) {
	t.Helper()
	if err != nil || !slices.Equal(got, want) {
		t.Fatalf("%s %x is %x, %v, not %x", what, with, got, err, want)
	}
}

// wantVerdict checks what a call says of a share.
func wantVerdict(t *testing.T, got error, holds bool, what string, with ...any) {
	t.Helper()
	if holds && got != nil || !holds && got != api.ErrProof {
		t.Fatalf("%s %x: %v, where %v is right", what, with, got, holds)
	}
}
