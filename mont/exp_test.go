package mont_test

import (
	"math/big"
	"math/rand"
	"slices"
	"testing"

	"treenail/api"
	"treenail/mont"
)

// checkExp holds a power against that of another reckoner.
func checkExp(t *testing.T, r *mont.Mod, a, e api.Nat) {
	t.Helper()
	got, err := r.Exp(a, e)
	wantNumber(t, got, err, new(big.Int).Exp(toBig(a), toBig(e), toBig(r.Modulus())), "Exp", r.Modulus(), a, e)
}

// P2.2: all that is below a small bound, reckoned by repeated products.
func TestExpOfSmallNumbers(t *testing.T) {
	for m := uint64(3); m <= 33; m += 2 {
		r := modulo(t, api.Nat{m})
		for a := range 2*m + 1 {
			want := uint64(1)
			for e := range uint64(70) {
				got, err := r.Exp(api.Nat{a}, api.Nat{e})
				wantNumber(t, got, err, new(big.Int).SetUint64(want), "Exp", r.Modulus(), api.Nat{a}, api.Nat{e})
				want = want * a % m
			}
		}
	}
}

// P2.2: exponents at which the digits that they are gone through by change their number, and of several limbs.
func TestExp(t *testing.T) {
	source := rand.New(rand.NewSource(23))
	exponents := []api.Nat{nil, {0, 0}, {1}, {1, 0, 0}, {2}, {3}, {15}, {16}, {17}, {255}, {256}, {1 << 63}, {ones}, {0, 1}, {ones, 0}, {0, 0, 1 << 60}, {0, ones}}
	eachArgument(t, func(r *mont.Mod, _, a api.Nat) {
		for _, e := range append(exponents, some(source, 1), some(source, 2)) {
			checkExp(t, r, a, e)
		}
	})
}

// P2.2: exponents as long as they may be.
func TestExpWithLongExponents(t *testing.T) {
	source := rand.New(rand.NewSource(24))
	for _, m := range moduli() {
		r := modulo(t, m)
		for _, e := range []api.Nat{m, plus(m, -1), full(64), power(64*64 - 1), padded(some(source, 64), 3), some(source, 33)} {
			checkExp(t, r, some(source, 64), e)
		}
		checkExp(t, r, plus(m, -1), full(64))
	}
}

// P2.2: the exponent 0 gives 1 for every base, the exponent 1 the base's residue.
func TestExpByZeroAndOne(t *testing.T) {
	eachArgument(t, func(r *mont.Mod, m, a api.Nat) {
		for _, zero := range []api.Nat{nil, {}, {0}, make(api.Nat, 100)} {
			if got, err := r.Exp(a, zero); err != nil || !slices.Equal(got, api.Nat{1}) {
				t.Fatalf("Exp(%x, 0) modulo %x is %x, %v", a, m, got, err)
			}
		}
		for _, one := range []api.Nat{{1}, padded(api.Nat{1}, 100)} {
			got, err := r.Exp(a, one)
			wantNumber(t, got, err, new(big.Int).Mod(toBig(a), toBig(m)), "Exp by 1", m, a)
		}
	})
}

// P2.2: powers of 0, and of what has the residue 0.
func TestExpOfZero(t *testing.T) {
	for _, m := range moduli() {
		r := modulo(t, m)
		for _, zero := range []api.Nat{nil, {0, 0}, m, product(m, api.Nat{ones}), product(m, m)} {
			for _, e := range []api.Nat{{1}, {2}, {16}, {0, 1}, full(64)} {
				if got, err := r.Exp(zero, e); err != nil || len(got) != 0 {
					t.Fatalf("Exp(%x, %x) modulo %x is %x, %v", zero, e, m, got, err)
				}
			}
			if got, err := r.Exp(zero, nil); err != nil || !slices.Equal(got, api.Nat{1}) {
				t.Fatalf("Exp(%x, 0) modulo %x is %x, %v", zero, m, got, err)
			}
		}
	}
}

// P2.2: Fermat's little theorem, and powers of -1, for primes of all lengths.
func TestExpModuloPrimes(t *testing.T) {
	for _, p := range []api.Nat{{3}, {23}, {895270319}, {ones - 58}, plus(power(127), -1), plus(power(521), -1), plus(power(1279), -1)} {
		r := modulo(t, p)
		last := plus(p, -1)
		for _, a := range []api.Nat{{1}, {2}, plus(p, 2), last, plus(product(p, p), -1)} {
			if got, err := r.Exp(a, last); err != nil || !slices.Equal(got, api.Nat{1}) {
				t.Errorf("%x to the p - 1 modulo %x is %x, %v", a, p, got, err)
			}
		}
		odd, err := r.Exp(last, full(64))
		wantNumber(t, odd, err, toBig(last), "an odd power of -1", p)
		even, err := r.Exp(last, plus(full(64), -1))
		wantNumber(t, even, err, big.NewInt(1), "an even power of -1", p)
	}
}
