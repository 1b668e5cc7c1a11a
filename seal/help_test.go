package seal_test

import (
	"bytes"
	"math/big"
	"math/rand"
	"slices"
	"testing"

	"treenail/api"
	"treenail/group"
)

const ones = 1<<64 - 1

// one is the number 1 of the means by which the tests reckon.
var one = big.NewInt(1)

// full is the number of n limbs with all bits set.
func full(n int) api.Nat { return slices.Repeat(api.Nat{ones}, n) }

// power is 2^(64 n): a number of n + 1 limbs.
func power(n int) api.Nat { return append(make(api.Nat, n), 1) }

// padded is a number told with n zeros at its end.
func padded(a api.Nat, n int) api.Nat { return append(slices.Clone(a), make(api.Nat, n)...) }

// toBig reads a number by means that have nothing to do with the package.
func toBig(a api.Nat) *big.Int {
	z := new(big.Int)
	for _, limb := range slices.Backward(a) {
		z.Lsh(z, 64).Or(z, new(big.Int).SetUint64(limb))
	}
	return z
}

// fromBig tells a number in limbs, without zeros at the end.
func fromBig(z *big.Int) api.Nat {
	var a api.Nat
	low := new(big.Int).SetUint64(ones)
	for z = new(big.Int).Set(z); z.Sign() > 0; z.Rsh(z, 64) {
		a = append(a, new(big.Int).And(z, low).Uint64())
	}
	return a
}

// plus is a number and a small one, which may be below 0.
func plus(a api.Nat, k int64) api.Nat { return fromBig(new(big.Int).Add(toBig(a), big.NewInt(k))) }

// timesPlus is a times b, plus c.
func timesPlus(a, b, c api.Nat) api.Nat {
	z := new(big.Int).Mul(toBig(a), toBig(b))
	return fromBig(z.Add(z, toBig(c)))
}

// stepTo is a step from Q to a prime P, with the least witness.
func stepTo(p, q *big.Int) api.Step {
	root := new(big.Int).Div(new(big.Int).Sub(p, one), q)
	for a := big.NewInt(2); ; a.Add(a, one) {
		less := new(big.Int).Exp(a, root, p)
		if less.Sub(less, one); new(big.Int).GCD(nil, nil, less, p).Cmp(one) == 0 {
			return api.Step{P: fromBig(p), Q: fromBig(q), A: fromBig(a)}
		}
	}
}

// great is a group whose Q is found from a small prime on; its G is 4. A row tells of a prime about how many bits it has, less one, and which factor of the prime before it makes one: found once, since the search is long.
func great(rows ...[2]int64) api.Group {
	var chain []api.Step
	q := big.NewInt(65521)
	for _, row := range rows {
		factor := new(big.Int).Lsh(one, uint(row[0])-uint(q.BitLen())+1)
		factor.Add(factor, big.NewInt(2*row[1]))
		p := new(big.Int).Add(factor.Mul(factor, q), one)
		chain = append(chain, stepTo(p, q))
		q = p
	}
	safe := new(big.Int).Add(new(big.Int).Lsh(q, 1), one)
	chain = append(chain, stepTo(safe, q))
	slices.Reverse(chain)
	return api.Group{G: api.Nat{4}, Chain: chain}
}

// setting is a group with what reckons in it by means that have nothing to do with the packages.
type setting struct {
	x       *group.Group
	p, q, g *big.Int
}

// made is the setting of a group.
func made(t *testing.T, g api.Group) *setting {
	t.Helper()
	x, err := group.New(g)
	if err != nil {
		t.Fatal(err)
	}
	return &setting{x, toBig(g.Chain[0].P), toBig(g.Chain[0].Q), toBig(g.G)}
}

// small is the group of a prime with one step.
func small(t *testing.T, p, q uint64, g api.Nat) *setting {
	t.Helper()
	return made(t, api.Group{G: g, Chain: []api.Step{{P: api.Nat{p}, Q: api.Nat{q}, A: api.Nat{2}}}})
}

// least is the smallest group that can represent a byte.
func least(t *testing.T) *setting { return small(t, 563, 281, api.Nat{4}) }

// thirtyBits is the group of the whole system's examples.
func thirtyBits(t *testing.T) *setting {
	t.Helper()
	return made(t, api.Group{G: api.Nat{4}, Chain: []api.Step{
		{P: api.Nat{895270319}, Q: api.Nat{447635159}, A: api.Nat{2}},
		{P: api.Nat{447635159}, Q: api.Nat{45949}, A: api.Nat{2}},
	}})
}

// fourLimbs is a group of 256 bits.
func fourLimbs(t *testing.T) *setting {
	return made(t, great([2]int64{30, 19}, [2]int64{58, 14}, [2]int64{114, 10}, [2]int64{226, 51}, [2]int64{255, 10626}))
}

// greatest is a group of 2048 bits.
func greatest(t *testing.T) *setting {
	return made(t, great(
		[2]int64{30, 19}, [2]int64{58, 14}, [2]int64{114, 10}, [2]int64{226, 51}, [2]int64{450, 502},
		[2]int64{898, 76}, [2]int64{1040, 262}, [2]int64{2046, 1954353},
	))
}

// settings are groups of 10, 16, 17, 30, 64, 65 and 256 bits: the elements' bytes are filled in some and not in others; one has a G that isn't 4.
func settings(t *testing.T) []*setting {
	t.Helper()
	return []*setting{
		least(t), small(t, 32843, 16421, api.Nat{4}), small(t, 65267, 32633, api.Nat{4}),
		small(t, 100547, 50273, api.Nat{4}), small(t, 100547, 50273, api.Nat{9}), thirtyBits(t),
		made(t, great([2]int64{30, 19}, [2]int64{44, 11}, [2]int64{62, 207})),
		made(t, great([2]int64{30, 19}, [2]int64{44, 11}, [2]int64{63, 1195})),
		fourLimbs(t),
	}
}

// exp is a to the s.
func (s *setting) exp(a, e api.Nat) api.Nat {
	return fromBig(new(big.Int).Exp(toBig(a), toBig(e), s.p))
}

// base is G to the s.
func (s *setting) base(e api.Nat) api.Nat { return s.exp(fromBig(s.g), e) }

// mul is a times b.
func (s *setting) mul(a, b api.Nat) api.Nat {
	z := new(big.Int).Mul(toBig(a), toBig(b))
	return fromBig(z.Mod(z, s.p))
}

// isElement tells, by the symbol of Jacobi, whether a number is an element.
func (s *setting) isElement(a api.Nat) bool {
	z := toBig(a)
	return z.Sign() > 0 && z.Cmp(s.p) < 0 && big.Jacobi(z, s.p) == 1
}

// elements are elements at the edges: the least and the greatest, G, with zeros at the end and without.
func (s *setting) elements() []api.Nat {
	top := fromBig(new(big.Int).Sub(s.p, one))
	for !s.isElement(top) {
		top = plus(top, -1)
	}
	return []api.Nat{{1}, {4}, top, fromBig(s.g), {9, 0}, padded(api.Nat{1}, 3), padded(top, 1), padded(api.Nat{16}, 70)}
}

// others are numbers that are no elements, many of them with the residues of elements.
func (s *setting) others() []api.Nat {
	p := fromBig(s.p)
	return []api.Nat{
		nil, {0, 0}, plus(p, -1), plus(p, -4), padded(plus(p, -1), 2), p, padded(p, 1), plus(p, 1), plus(p, 4),
		timesPlus(p, api.Nat{2}, api.Nat{4}), timesPlus(p, full(64-len(p)), api.Nat{1}), full(64), power(64), full(65), timesPlus(p, full(65), api.Nat{4}),
	}
}

// scalars are scalars at the edges: 0, Q, more than Q, of 64 limbs, with zeros at the end.
func (s *setting) scalars() []api.Nat {
	q := fromBig(s.q)
	return []api.Nat{
		nil, {0}, {0, 0}, make(api.Nat, 70), {1}, {2, 0}, plus(q, -1), q, padded(q, 1), padded(q, 70), plus(q, 1),
		timesPlus(q, api.Nat{2}, api.Nat{5}), fromBig(s.p), full(2), full(63), power(63), full(64), padded(full(64), 1), padded(full(64), 9),
	}
}

// longScalars are scalars of more than 64 limbs.
func longScalars() []api.Nat { return []api.Nat{power(64), full(65), padded(full(65), 2), full(500)} }

// scalar is any scalar.
func (s *setting) scalar(r *rand.Rand) api.Nat { return fromBig(new(big.Int).Rand(r, s.q)) }

// element is any element.
func (s *setting) element(r *rand.Rand) api.Nat { return s.base(s.scalar(r)) }

// withQs is a scalar with Qs more: one, two, and as many as 64 limbs hold.
func (s *setting) withQs(a api.Nat) []api.Nat {
	q := fromBig(s.q)
	all := new(big.Int).Sub(toBig(full(64)), toBig(a))
	return []api.Nat{timesPlus(q, api.Nat{1}, a), padded(timesPlus(q, api.Nat{2}, a), 1), timesPlus(q, fromBig(all.Div(all, s.q)), a)}
}

// bodies are bytes of as many as make the ends of a piece of the stream and of a block of the digest, and none of them, nil and empty.
func bodies(r *rand.Rand) [][]byte {
	l := [][]byte{nil, {}, {0}, {255}, []byte("hello"), make([]byte, 40)}
	for _, n := range []int{1, 8, 31, 32, 33, 55, 56, 63, 64, 65, 127, 128, 129, 1000} {
		l = append(l, someBytes(r, n))
	}
	return l
}

// someBytes are any n bytes.
func someBytes(r *rand.Rand, n int) []byte {
	b := make([]byte, n)
	r.Read(b)
	return b
}

// most is how many bytes there may be at most.
const most = 1 << 20

// sameLetter tells whether two letters are told in the same limbs and bytes.
func sameLetter(a, b api.Letter) bool {
	return slices.Equal(a.R, b.R) && bytes.Equal(a.Body, b.Body) && bytes.Equal(a.Tag, b.Tag)
}

// copied is a copy of a letter.
func copied(l api.Letter) api.Letter {
	return api.Letter{R: slices.Clone(l.R), Body: slices.Clone(l.Body), Tag: slices.Clone(l.Tag)}
}

// wantLetter checks a letter that Close answers.
func wantLetter(t *testing.T, got api.Letter, err error, want api.Letter, with ...any) {
	t.Helper()
	if err != nil || !sameLetter(got, want) {
		t.Fatalf("Close %x is %x, %v, not %x", with, got, err, want)
	}
}

// wantOpened checks bytes that Open answers.
func wantOpened(t *testing.T, got []byte, err error, want []byte, with ...any) {
	t.Helper()
	if err != nil || !bytes.Equal(got, want) {
		t.Fatalf("Open %x is %x, %v, not %x", with, got, err, want)
	}
}

// wantSealed checks that Open doesn't open a letter.
func wantSealed(t *testing.T, got []byte, err error, with ...any) {
	t.Helper()
	if err != api.ErrSeal || len(got) > 0 {
		t.Fatalf("Open %x is %x, %v", with, got, err)
	}
}
