package prime_test

import (
	"math/big"
	"slices"
	"testing"

	"treenail/api"
	"treenail/prime"
)

// P3.3: whatever Check proves is a prime, and every odd prime whose P - 1 has a divisor that is great enough can be proved.
func TestProvedIsPrime(t *testing.T) {
	for p := uint64(3); p < 1500; p += 2 {
		for q := uint64(2); q < p; q++ {
			if q*q <= p || (p-1)%q != 0 || !isPrime(q) {
				continue
			}
			proved := false
			for a := uint64(2); a < p; a++ {
				got, err := prime.Check(proof(step(p, q, a)))
				if err != nil {
					continue
				}
				proved = true
				if !isPrime(p) || !slices.Equal(got, api.Nat{p}) {
					t.Fatalf("%d by %d with %d proves %x", p, q, a, got)
				}
			}
			if isPrime(p) && !proved {
				t.Errorf("%d by %d has no proof", p, q)
			}
		}
	}
}

// P3.3: what is a prime only almost is not proved: products of two primes, with every witness that could be.
func TestProductsAreNotProved(t *testing.T) {
	for _, p := range []uint64{15, 341, 561, 645, 1105, 1387, 1729, 2047, 2465, 2701, 2821, 3277, 4033, 8911} {
		for q := uint64(2); q < p; q++ {
			if (p-1)%q != 0 {
				continue
			}
			for a := uint64(2); a < p; a++ {
				wantSpot(t, proof(step(p, q, a)), 0, api.ErrProof)
			}
		}
	}
}

// P3.3: a chain that goes round, or that rests on itself, proves nothing.
func TestRoundabout(t *testing.T) {
	wantSpot(t, slices.Repeat(proof(step(9, 9, 2)), 64), 0, api.ErrProof)
	wantSpot(t, slices.Repeat(proof(step(895270319, 447635159, 2)), 2), 0, api.ErrProof)
	for _, n := range []uint64{25, 65533, 65535} {
		// A P that is a prime is not proved by a Q that is none.
		for p := 2*n + 1; p < n*n; p += 2 * n {
			if !isPrime(p) {
				continue
			}
			for a := uint64(2); a < min(p, 60); a++ {
				wantSpot(t, proof(step(p, n, a)), 0, api.ErrProof)
			}
			break
		}
	}
}

// P3.3: great numbers that are proved are primes by other means too.
func TestGreatProvedArePrimes(t *testing.T) {
	for _, chain := range [][]api.Step{greatChain(t, limbs32), longChain(t, 64)} {
		for i := range chain {
			got, err := prime.Check(chain[i:])
			if err != nil || toBig(got).Cmp(toBig(chain[i].P)) != 0 || !toBig(got).ProbablyPrime(5) {
				t.Fatalf("step %d proves %x, %v", i, got, err)
			}
		}
	}
	// A product of two great primes has no proof from either's.
	chain := greatChain(t, limbs32)
	p, q := toBig(chain[3].P), toBig(chain[3].Q)
	both := fromBig(new(big.Int).Mul(p, q))
	wantSpot(t, changed(chain[3:], 0, func(s *api.Step) { s.P = both }), 0, api.ErrProof)
}
