package group_test

import (
	"math/big"
	"math/rand"
	"slices"
	"testing"

	"treenail/api"
	"treenail/group"
)

const ones = 1<<64 - 1

// one is the number 1 of the means by which the tests reckon.
var one = big.NewInt(1)

// full is the number of n limbs with all bits set.
func full(n int) api.Nat { return slices.Repeat(api.Nat{ones}, n) }

// padded is a number told with n zeros at its end.
func padded(a api.Nat, n int) api.Nat { return append(slices.Clone(a), make(api.Nat, n)...) }

// toBig reads a number by means that have nothing to do with the package.
func toBig(a api.Nat) *big.Int {
	z := new(big.Int)
	for _, limb := range slices.Backward(a) {
		z.Lsh(z, 64).Or(z, new(big.Int).SetUint64(limb))
	}
	return z
}

// fromBig tells a number in limbs.
func fromBig(z *big.Int) api.Nat {
	var a api.Nat
	low := new(big.Int).SetUint64(ones)
	for z = new(big.Int).Set(z); z.Sign() > 0; z.Rsh(z, 64) {
		a = append(a, new(big.Int).And(z, low).Uint64())
	}
	return a
}

// number is a number of one limb, or of none.
func number(n uint64) api.Nat { return fromBig(new(big.Int).SetUint64(n)) }

// plus is a number and a small one, which may be below 0.
func plus(a api.Nat, k int64) api.Nat { return fromBig(new(big.Int).Add(toBig(a), big.NewInt(k))) }

// timesPlus is a times b, plus c.
func timesPlus(a, b, c api.Nat) api.Nat {
	z := new(big.Int).Mul(toBig(a), toBig(b))
	return fromBig(z.Add(z, toBig(c)))
}

// some is a number of n limbs, with limbs of all bits or none more often than chance would have it.
func some(r *rand.Rand, n int) api.Nat {
	a := make(api.Nat, n)
	for i := range a {
		a[i] = []uint64{0, ones, r.Uint64(), r.Uint64() >> r.Intn(64)}[r.Intn(4)]
	}
	if n > 0 {
		a[n-1] = max(a[n-1], 1)
	}
	return a
}

// step is a step of small numbers.
func step(p, q, a uint64) api.Step { return api.Step{P: number(p), Q: number(q), A: number(a)} }

// stepTo is a step from Q to a prime P, with the least witness.
func stepTo(p, q *big.Int) api.Step {
	root := new(big.Int).Div(new(big.Int).Sub(p, one), q)
	for a := big.NewInt(2); ; a.Add(a, one) {
		less := new(big.Int).Exp(a, root, p)
		if less.Sub(less, one); new(big.Int).GCD(nil, nil, less, p).Cmp(one) == 0 {
			return api.Step{P: fromBig(p), Q: fromBig(q), A: fromBig(a)}
		}
	}
}

// safe is twice a number, and 1.
func safe(q *big.Int) *big.Int { return new(big.Int).Add(new(big.Int).Lsh(q, 1), one) }

// stepsBelow proves a prime, where that is easy: P - 1 is a great prime times small ones.
func stepsBelow(p *big.Int) ([]api.Step, bool) {
	if p.BitLen() <= 16 {
		return nil, true
	}
	q := new(big.Int).Sub(p, one)
	for d := int64(2); d < 65536; d++ {
		for new(big.Int).Mod(q, big.NewInt(d)).Sign() == 0 && q.Cmp(big.NewInt(d)) > 0 {
			q.Div(q, big.NewInt(d))
		}
	}
	if !q.ProbablyPrime(10) || new(big.Int).Mul(q, q).Cmp(p) <= 0 {
		return nil, false
	}
	rest, ok := stepsBelow(q)
	return append([]api.Step{stepTo(p, q)}, rest...), ok
}

// nearest is the group of the first Q, from a number on upwards or downwards, that is easy to prove; its G is 4.
func nearest(from *big.Int, by int64) api.Group {
	for q := new(big.Int).Set(from); ; q.Add(q, big.NewInt(by)) {
		if !q.ProbablyPrime(10) || !safe(q).ProbablyPrime(10) {
			continue
		}
		if rest, ok := stepsBelow(q); ok {
			return api.Group{G: api.Nat{4}, Chain: append([]api.Step{stepTo(safe(q), q)}, rest...)}
		}
	}
}

// great is a group whose Q is found by so many steps from a small prime, and a last one; its G is 4.
func great(steps int, last [2]int64) api.Group {
	// Of each prime about how many bits it has, less one, and which factor of the prime before it makes one: found once, since the search is long.
	rows := [][2]int64{{30, 19}, {58, 14}, {114, 10}, {226, 51}, {450, 502}, {898, 76}, {1040, 262}}
	var chain []api.Step
	q := big.NewInt(65521)
	for _, row := range append(slices.Clone(rows[:steps]), last) {
		factor := new(big.Int).Lsh(one, uint(row[0])-uint(q.BitLen())+1)
		factor.Add(factor, big.NewInt(2*row[1]))
		p := new(big.Int).Add(factor.Mul(factor, q), one)
		chain = append(chain, stepTo(p, q))
		q = p
	}
	chain = append(chain, stepTo(safe(q), q))
	slices.Reverse(chain)
	return api.Group{G: api.Nat{4}, Chain: chain}
}

// least is the smallest group that can represent a byte.
func least() api.Group { return api.Group{G: api.Nat{4}, Chain: []api.Step{step(563, 281, 2)}} }

// chapters is the group of the chapter's examples: 2 is no element of it.
func chapters() api.Group {
	return api.Group{G: api.Nat{4}, Chain: []api.Step{step(100547, 50273, 2)}}
}

// thirtyBits is the group of the whole system's examples: 2 is an element of it.
func thirtyBits() api.Group {
	return api.Group{G: api.Nat{4}, Chain: []api.Step{step(895270319, 447635159, 2), step(447635159, 45949, 2)}}
}

// greatest is a group whose P has 32 limbs, all bits of them.
func greatest() api.Group { return great(7, [2]int64{2046, 1954353}) }

// ordinary are groups from the smallest to 513 bits, among them some whose P has a limb more than Q.
func ordinary() []api.Group {
	limb := new(big.Int).Lsh(one, 64)
	return []api.Group{
		least(), chapters(), thirtyBits(),
		nearest(new(big.Int).Rsh(limb, 1), -1), nearest(limb, -1), nearest(limb, 1),
		great(4, [2]int64{255, 10626}), great(5, [2]int64{511, 34324}),
	}
}

// copied is a group's description that shares nothing with another.
func copied(g api.Group) api.Group {
	l := make([]api.Step, len(g.Chain))
	for i, s := range g.Chain {
		l[i] = api.Step{P: slices.Clone(s.P), Q: slices.Clone(s.Q), A: slices.Clone(s.A)}
	}
	return api.Group{G: slices.Clone(g.G), Chain: l}
}

// withG is a description with another G.
func withG(g api.Group, other api.Nat) api.Group {
	g = copied(g)
	g.G = other
	return g
}

// made is a group that must come about.
func made(t *testing.T, g api.Group) *group.Group {
	t.Helper()
	x, err := group.New(g)
	if err != nil || x == nil {
		t.Fatalf("New(%x): %v, %v", g, x, err)
	}
	return x
}

// isElement tells, by the symbol of Jacobi, whether a number is an element.
func isElement(p *big.Int, a api.Nat) bool {
	z := toBig(a)
	return z.Sign() > 0 && z.Cmp(p) < 0 && big.Jacobi(z, p) == 1
}

// sameNumber checks a number and that it has no zeros at its end.
func sameNumber(t *testing.T, got api.Nat, err error, want *big.Int, what string, with ...api.Nat) {
	t.Helper()
	if err != nil || !slices.Equal(got, fromBig(want)) {
		t.Fatalf("%s %x is %x, %v, not %x", what, with, got, err, want)
	}
}

// plainError checks that an error is the code itself, and that the list beside it is empty.
func plainError[E any](t *testing.T, got []E, err error, want api.Code, what string, with ...api.Nat) {
	t.Helper()
	if err != want || len(got) != 0 {
		t.Fatalf("%s %x is %v and error %v, not %v", what, with, got, err, want)
	}
}

// argumentsFor are numbers at, below and above P and Q, elements and others, up to 65 limbs; those that are greater than P have the residues of elements where they can.
func argumentsFor(r *rand.Rand, p, q api.Nat) []api.Nat {
	l := []api.Nat{
		nil, {0}, {0, 0, 0}, {1}, {1, 0}, {2}, {3}, {4}, {4, 0, 0}, padded(api.Nat{4}, 70), {0, 1}, {4, 1},
		plus(q, -1), q, padded(q, 2), plus(q, 1), plus(p, -4), plus(p, -2), plus(p, -1), p, padded(p, 1), plus(p, 1), plus(p, 4),
		timesPlus(p, api.Nat{2}, api.Nat{4}), timesPlus(p, full(64-len(p)), api.Nat{1}), timesPlus(p, full(65), api.Nat{4}),
		full(len(p)), full(len(p) + 1), full(64), full(65), append(make(api.Nat, 64), 1),
	}
	for range 6 {
		z := new(big.Int).Rand(r, toBig(p))
		l = append(l, fromBig(z), fromBig(z.Mod(z.Mul(z, z), toBig(p))))
	}
	return l
}

// scalarsFor are scalars at, below and above Q, up to 64 limbs.
func scalarsFor(r *rand.Rand, q api.Nat) []api.Nat {
	return []api.Nat{
		nil, {0, 0}, {1}, {1, 0}, {2}, {3}, {16}, {17}, plus(q, -1), q, padded(q, 70), plus(q, 1), timesPlus(q, api.Nat{2}, nil), timesPlus(q, api.Nat{2}, api.Nat{5}),
		fromBig(new(big.Int).Rand(r, toBig(q))), some(r, len(q)), some(r, len(q)+1), some(r, 63), some(r, 64), full(64), padded(full(64), 3), append(make(api.Nat, 63), 1),
	}
}
