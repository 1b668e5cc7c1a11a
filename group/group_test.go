package group_test

import (
	"errors"
	"math/big"
	"slices"
	"testing"

	"treenail/api"
	"treenail/group"
	"treenail/prime"
)

// refused checks that New answers an error that is the code itself, and no group.
func refused(t *testing.T, g api.Group, want api.Code) {
	t.Helper()
	if x, err := group.New(g); x != nil || err != want {
		t.Fatalf("New(%x) is %v and error %v, not %v", g, x, err, want)
	}
}

// refusedByCheck checks that New answers what Check answers of the chain, and no group.
func refusedByCheck(t *testing.T, g api.Group) {
	t.Helper()
	x, err := group.New(g)
	_, want := prime.Check(g.Chain)
	if x != nil || want == nil || err == nil {
		t.Fatalf("New(%x) is %v and error %v, not %v", g, x, err, want)
	}
	spot, isSpot := want.(*api.Spot)
	if !isSpot {
		if err != want {
			t.Fatalf("New(%x): error %v, not %v", g, err, want)
		}
		return
	}
	if got, ok := err.(*api.Spot); !ok || got == nil || got.At != spot.At || got.Err != spot.Err {
		t.Fatalf("New(%x): error %v, not %v", g, err, want)
	}
}

// is checks the numbers of a group.
func is(t *testing.T, x *group.Group, p, q, g *big.Int) {
	t.Helper()
	sameNumber(t, x.P(), nil, p, "P")
	sameNumber(t, x.Q(), nil, q, "Q")
	sameNumber(t, x.G(), nil, g, "G")
	sameNumber(t, x.Scalars().Modulus(), nil, q, "the modulus of Scalars")
}

// P4.1: groups from 10 bits to 2048, with different G.
func TestNew(t *testing.T) {
	for _, g := range append(ordinary(), greatest()) {
		p, q := toBig(g.Chain[0].P), toBig(g.Chain[0].Q)
		is(t, made(t, g), p, q, big.NewInt(4))
		for _, other := range []api.Nat{{9}, {16}, plus(g.Chain[0].P, -4)} {
			if isElement(p, other) {
				is(t, made(t, withG(g, other)), p, q, toBig(other))
			}
		}
	}
	if x := made(t, greatest()); len(x.P()) != 32 || x.P()[31]>>63 != 1 {
		t.Errorf("P has %d limbs", len(x.P()))
	}
}

// P4.1: Scalars reckons modulo Q.
func TestScalars(t *testing.T) {
	for _, g := range ordinary() {
		x := made(t, g)
		z, err := x.Scalars().Add(plus(x.Q(), -1), api.Nat{6})
		sameNumber(t, z, err, big.NewInt(5), "a sum of scalars")
		z, err = x.Scalars().Sub(nil, api.Nat{1})
		sameNumber(t, z, err, new(big.Int).Sub(toBig(x.Q()), one), "a difference of scalars")
		z, err = x.Scalars().Reduce(x.P())
		sameNumber(t, z, err, one, "P as a scalar")
	}
}

// P4.1: a chain that Check refuses is refused with the error of Check, whatever G is.
func TestChainRefused(t *testing.T) {
	first, second := thirtyBits().Chain[0], thirtyBits().Chain[1]
	for _, g := range []api.Nat{nil, {1}, {2}, {4}, full(65)} {
		for _, chain := range [][]api.Step{
			nil, {}, slices.Repeat([]api.Step{first}, 65), make([]api.Step, 65),
			{{}}, {first}, {second, first}, {first, first}, {first, second, second},
			{first, {P: second.P, Q: second.Q}}, {first, {P: second.P, Q: full(65), A: second.A}}, {first, {P: full(33)}},
			{{P: full(33), Q: first.Q, A: first.A}}, {{P: first.P, Q: full(65), A: first.A}}, {{P: first.P, Q: first.Q, A: full(65)}},
			{step(100546, 50273, 2)}, {step(100549, 50273, 2)}, {step(100547, 50273, 1)}, {step(100547, 50273, 100547)}, {step(100547, 2, 2)},
			{step(0, 0, 0)}, {step(2, 2, 2)}, {step(3, 1, 2)}, {step(5, 2, 2)}, {step(5, 2, 3)}, {step(15, 7, 2)},
		} {
			refusedByCheck(t, api.Group{G: g, Chain: chain})
		}
	}
	_, err := group.New(api.Group{G: api.Nat{4}, Chain: []api.Step{first, {P: second.P, Q: second.Q}}})
	var spot *api.Spot
	if !errors.As(err, &spot) || spot.At != 1 || !errors.Is(err, api.ErrProof) {
		t.Error(err)
	}
}

// P4.1: a P that is a prime, but no safe one, by a Q that isn't (P - 1) / 2; and a Q of 2.
func TestWrongOrder(t *testing.T) {
	for _, s := range []api.Step{step(3, 2, 2), step(29, 7, 2), step(43, 7, 2), step(53, 13, 2), step(1049, 131, 3)} {
		for _, g := range []api.Nat{nil, {1}, {2}, {4}, {9}, full(65)} {
			refused(t, api.Group{G: g, Chain: []api.Step{s}}, api.ErrConfig)
		}
	}
	// Great chains whose first step is no doubling.
	refused(t, api.Group{G: api.Nat{4}, Chain: greatest().Chain[1:]}, api.ErrConfig)
	refused(t, api.Group{G: api.Nat{4}, Chain: greatest().Chain[3:]}, api.ErrConfig)
}

// P4.1: a G that is no element, or 1.
func TestWrongGenerator(t *testing.T) {
	for _, g := range append(ordinary(), greatest()) {
		p := g.Chain[0].P
		for _, other := range []api.Nat{
			nil, {0}, {0, 0, 0}, {1}, {1, 0}, padded(api.Nat{1}, 70), plus(p, -1), p, padded(p, 3), plus(p, 1), plus(p, 4), plus(p, -9),
			timesPlus(p, api.Nat{3}, api.Nat{4}), timesPlus(p, full(64-len(p)), api.Nat{4}), full(64), full(65), timesPlus(p, full(65), api.Nat{4}),
		} {
			refused(t, withG(g, other), api.ErrGroup)
		}
	}
	refused(t, withG(chapters(), api.Nat{2}), api.ErrGroup)
	made(t, withG(chapters(), plus(api.Nat{100547}, -2)))
	made(t, withG(thirtyBits(), api.Nat{2}))
	refused(t, withG(thirtyBits(), plus(api.Nat{895270319}, -2)), api.ErrGroup)
}

// P4.1: all numbers as the G of a small group.
func TestEveryGenerator(t *testing.T) {
	for n := range uint64(3 * 563) {
		if g := withG(least(), number(n)); n != 1 && isElement(big.NewInt(563), number(n)) {
			is(t, made(t, g), big.NewInt(563), big.NewInt(281), new(big.Int).SetUint64(n))
		} else {
			refused(t, g, api.ErrGroup)
		}
	}
}

// P4.1: a group that is too small to represent a byte; the least one that isn't.
func TestTooSmall(t *testing.T) {
	found := 0
	for q := int64(3); q <= 281; q++ {
		order := big.NewInt(q)
		if !order.ProbablyPrime(10) || !safe(order).ProbablyPrime(10) {
			continue
		}
		found++
		g := api.Group{G: api.Nat{4}, Chain: []api.Step{stepTo(safe(order), order)}}
		if q < 256 {
			refused(t, g, api.ErrConfig)
			refused(t, withG(g, api.Nat{1}), api.ErrGroup)
			refused(t, withG(g, fromBig(safe(order))), api.ErrGroup)
		} else {
			made(t, g)
		}
	}
	if found < 10 {
		t.Errorf("%d groups in all", found)
	}
}

// R1: of several errors the first that P4.1 names.
func TestFirstError(t *testing.T) {
	refusedByCheck(t, api.Group{G: nil, Chain: []api.Step{step(29, 7, 1)}}) // no proof, no safe prime, no element
	refused(t, api.Group{G: nil, Chain: []api.Step{step(29, 7, 2)}}, api.ErrConfig)
	refused(t, api.Group{G: nil, Chain: []api.Step{step(7, 3, 3)}}, api.ErrGroup) // no element, and too small
	refused(t, api.Group{G: api.Nat{2}, Chain: []api.Step{step(7, 3, 3)}}, api.ErrConfig)
}

// P4.1: zeros at the end of a number don't count, and none is handed out.
func TestZerosAtTheEnd(t *testing.T) {
	for _, g := range ordinary() {
		for _, n := range []int{1, 70} {
			long := copied(g)
			long.G = padded(long.G, n)
			for i, s := range long.Chain {
				long.Chain[i] = api.Step{P: padded(s.P, n), Q: padded(s.Q, n), A: padded(s.A, n)}
			}
			x := made(t, long)
			is(t, x, toBig(g.Chain[0].P), toBig(g.Chain[0].Q), big.NewInt(4))
			if want := made(t, g).Size(); x.Size() != want {
				t.Errorf("Size is %d, not %d", x.Size(), want)
			}
			z, err := x.Base(api.Nat{2})
			sameNumber(t, z, err, big.NewInt(16), "Base(2)")
		}
	}
}
