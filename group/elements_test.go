package group_test

import (
	"math/big"
	"math/rand"
	"testing"

	"treenail/api"
	"treenail/group"
)

// quotient is a over b modulo p, by means that have nothing to do with the package.
func quotient(a, b api.Nat, p *big.Int) *big.Int {
	z := new(big.Int).ModInverse(toBig(b), p)
	return z.Mod(z.Mul(z, toBig(a)), p)
}

// product is a times b modulo p.
func product(a, b api.Nat, p *big.Int) *big.Int {
	z := new(big.Int).Mul(toBig(a), toBig(b))
	return z.Mod(z, p)
}

// powerOf is a to the s modulo p.
func powerOf(a, s api.Nat, p *big.Int) *big.Int { return new(big.Int).Exp(toBig(a), toBig(s), p) }

// multiplied checks Mul and Over of two numbers.
func multiplied(t *testing.T, x *group.Group, p *big.Int, a, b api.Nat) {
	t.Helper()
	m, errM := x.Mul(a, b)
	o, errO := x.Over(a, b)
	if !isElement(p, a) || !isElement(p, b) {
		plainError(t, m, errM, api.ErrGroup, "Mul", x.P(), a, b)
		plainError(t, o, errO, api.ErrGroup, "Over", x.P(), a, b)
		return
	}
	sameNumber(t, m, errM, product(a, b, p), "Mul", x.P(), a, b)
	sameNumber(t, o, errO, quotient(a, b, p), "Over", x.P(), a, b)
}

// raised checks Exp of a number and a scalar that isn't too long.
func raised(t *testing.T, x *group.Group, p *big.Int, a, s api.Nat) {
	t.Helper()
	z, err := x.Exp(a, s)
	if !isElement(p, a) {
		plainError(t, z, err, api.ErrGroup, "Exp", x.P(), a, s)
		return
	}
	sameNumber(t, z, err, powerOf(a, s, p), "Exp", x.P(), a, s)
}

// P4.2: all numbers of small groups, and some beyond P.
func TestIsAll(t *testing.T) {
	for _, g := range []api.Group{least(), chapters()} {
		x := made(t, g)
		p := toBig(x.P())
		elements := uint64(0)
		for n := range p.Uint64() * 2 {
			want := isElement(p, number(n))
			if x.Is(number(n)) != want {
				t.Fatalf("Is(%d) modulo %d is %v", n, p, !want)
			}
			if want {
				elements++
			}
		}
		if elements != toBig(x.Q()).Uint64() {
			t.Errorf("%d elements modulo %d", elements, p)
		}
	}
}

// P4.2: the numbers at the edges, elements and others, too long ones.
func TestIs(t *testing.T) {
	r := rand.New(rand.NewSource(40))
	for _, g := range append(ordinary(), greatest()) {
		x := made(t, g)
		for _, a := range argumentsFor(r, x.P(), x.Q()) {
			if want := isElement(toBig(x.P()), a); x.Is(a) != want {
				t.Errorf("Is(%x) modulo %x is %v", a, x.P(), !want)
			}
		}
		for _, a := range []api.Nat{{1}, {1, 0}, {4}, padded(api.Nat{4}, 70)} {
			if !x.Is(a) {
				t.Errorf("Is(%x) modulo %x is false", a, x.P())
			}
		}
		// Of 2 and P - 2 just one is a square.
		if x.Is(api.Nat{2}) == x.Is(plus(x.P(), -2)) {
			t.Errorf("2 and -2 modulo %x", x.P())
		}
		for _, a := range []api.Nat{nil, {0, 0}, plus(x.P(), -1), x.P(), plus(x.P(), 1), plus(x.P(), 4), timesPlus(x.P(), full(65), api.Nat{4}), full(3000)} {
			if x.Is(a) {
				t.Errorf("Is(%x) modulo %x is true", a, x.P())
			}
		}
	}
}

// P4.2: products and quotients, with every number of a small group on either side.
func TestMulAndOverAll(t *testing.T) {
	x := made(t, least())
	p := big.NewInt(563)
	for n := range uint64(2 * 563) {
		for _, k := range []uint64{0, 1, 2, 4, 9, 280, 281, 282, 321, 558, 559, 561, 562, 563, 564, 567, n} {
			multiplied(t, x, p, number(n), number(k))
			multiplied(t, x, p, number(k), number(n))
		}
	}
}

// P4.2: products and quotients of numbers at the edges, in groups of all lengths.
func TestMulAndOver(t *testing.T) {
	r := rand.New(rand.NewSource(41))
	for _, g := range ordinary() {
		x := made(t, g)
		l := argumentsFor(r, x.P(), x.Q())
		for _, a := range l {
			for _, b := range l {
				multiplied(t, x, toBig(x.P()), a, b)
			}
		}
	}
}

// P4.2: powers of every number of a small group.
func TestExpAll(t *testing.T) {
	x := made(t, least())
	for n := range uint64(570) {
		for _, s := range []uint64{0, 1, 2, 3, 140, 141, 279, 280, 281, 282, 283, 561, 562, 563, 564, 65537, ones} {
			raised(t, x, big.NewInt(563), number(n), number(s))
		}
	}
}

// P4.2: powers with scalars at the edges, and powers of G, in groups of all lengths.
func TestExpAndBase(t *testing.T) {
	r := rand.New(rand.NewSource(42))
	for _, g := range ordinary() {
		x := made(t, g)
		p, q := x.P(), x.Q()
		for _, s := range scalarsFor(r, q) {
			for _, a := range argumentsFor(r, p, q) {
				raised(t, x, toBig(p), a, s)
			}
			z, err := x.Base(s)
			sameNumber(t, z, err, powerOf(api.Nat{4}, s, toBig(p)), "Base", p, s)
		}
	}
	// Base takes the G of its group, not always 4.
	x := made(t, withG(chapters(), api.Nat{9}))
	z, err := x.Base(api.Nat{2})
	sameNumber(t, z, err, big.NewInt(81), "Base(2), with a G of 9")
}

// P4.2: by name, a power to 0 and to Q is 1, a power to 1 and to Q and 1 is the element, a power to Q - 1 undoes it.
func TestExpAtTheOrder(t *testing.T) {
	for _, g := range append(ordinary(), greatest()) {
		x := made(t, g)
		for _, a := range []api.Nat{{1}, {4}, {9, 0}} {
			for _, s := range []api.Nat{nil, {0}, x.Q()} {
				z, err := x.Exp(a, s)
				sameNumber(t, z, err, one, "Exp", x.P(), a, s)
			}
			for _, s := range []api.Nat{{1}, plus(x.Q(), 1)} {
				z, err := x.Exp(a, s)
				sameNumber(t, z, err, toBig(a), "Exp", x.P(), a, s)
			}
			z, err := x.Exp(a, plus(x.Q(), -1))
			sameNumber(t, z, err, quotient(api.Nat{1}, a, toBig(x.P())), "Exp", x.P(), a, plus(x.Q(), -1))
		}
		z, err := x.Base(x.Q())
		sameNumber(t, z, err, one, "Base", x.P(), x.Q())
	}
}

// P4.2: products, quotients and powers of 2048 bits.
func TestGreatest(t *testing.T) {
	r := rand.New(rand.NewSource(43))
	x := made(t, greatest())
	p := toBig(x.P())
	a, b := product(some(r, 32), api.Nat{1}, p), product(some(r, 32), api.Nat{1}, p)
	c, d := fromBig(a.Mod(a.Mul(a, a), p)), fromBig(b.Mod(b.Mul(b, b), p))
	multiplied(t, x, p, c, d)
	multiplied(t, x, p, c, plus(x.P(), -1))
	multiplied(t, x, p, c, timesPlus(x.P(), api.Nat{1}, d))
	for _, s := range []api.Nat{c, full(64), some(r, 40), plus(x.Q(), -1)} {
		raised(t, x, p, d, s)
		z, err := x.Base(s)
		sameNumber(t, z, err, powerOf(api.Nat{4}, s, p), "Base", s)
	}
}

// P4.2, R1: a scalar of 65 limbs is too long; but what isn't an element is named first.
func TestLongScalars(t *testing.T) {
	for _, g := range append(ordinary(), greatest()) {
		x := made(t, g)
		for _, s := range []api.Nat{append(make(api.Nat, 64), 1), full(65), padded(full(65), 2), full(2000)} {
			z, err := x.Exp(api.Nat{4}, s)
			plainError(t, z, err, api.ErrLong, "Exp", x.P(), s)
			z, err = x.Exp(api.Nat{1}, s)
			plainError(t, z, err, api.ErrLong, "Exp of 1", x.P(), s)
			z, err = x.Base(s)
			plainError(t, z, err, api.ErrLong, "Base", x.P(), s)
			for _, a := range []api.Nat{nil, plus(x.P(), -1), x.P(), plus(x.P(), 4), full(65)} {
				z, err = x.Exp(a, s)
				plainError(t, z, err, api.ErrGroup, "Exp", x.P(), a, s)
			}
		}
	}
}
