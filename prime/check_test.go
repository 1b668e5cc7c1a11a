package prime_test

import (
	"errors"
	"math/big"
	"slices"
	"testing"

	"treenail/api"
	"treenail/prime"
)

// ordinary is a proof of three steps; two of its numbers have a limb each, one has two.
func ordinary(t *testing.T) []api.Step {
	t.Helper()
	chain := greatChain(t, limbs32)
	return chain[len(chain)-3:]
}

// P3.2: proofs of one step and of several, with different witnesses.
func TestProofs(t *testing.T) {
	wantProved(t, proof(step(100547, 50273, 2)))
	wantProved(t, proof(step(895270319, 447635159, 2), step(447635159, 45949, 2)))
	wantProved(t, proof(step(895270319, 447635159, 3), step(447635159, 45949, 447635157)))
	wantProved(t, ordinary(t))
}

// P3.2: no step, 1, 64 and 65 steps. Too many steps are refused, whatever else is wrong with them.
func TestNumberOfSteps(t *testing.T) {
	chain := longChain(t, 65)
	wantArg(t, nil)
	wantArg(t, []api.Step{})
	wantArg(t, chain)
	wantArg(t, make([]api.Step, 65))
	wantArg(t, changed(chain, 0, func(s *api.Step) { s.P = full(33) }))
	wantProved(t, chain[64:])
	wantProved(t, chain[1:])
	wantSpot(t, changed(chain[1:], 63, func(s *api.Step) { s.A = nil }), 63, api.ErrProof)
}

// P3.2: each error is found with errors.As and errors.Is too.
func TestErrorsAreFound(t *testing.T) {
	_, err := prime.Check(proof(step(895270319, 447635159, 2), step(447635159, 45949, 1)))
	var spot *api.Spot
	var code api.Code
	if !errors.As(err, &spot) || spot.At != 1 || !errors.As(err, &code) || code != api.ErrProof || !errors.Is(err, api.ErrProof) {
		t.Error(err)
	}
}

// P3.2, R2: zeros at the end of a number don't count, however many, also where two steps join.
func TestZerosAtTheEnd(t *testing.T) {
	chain := ordinary(t)
	for i := range chain {
		for _, n := range []int{1, 70} {
			wantProved(t, changed(chain, i, func(s *api.Step) { s.P = padded(s.P, n) }))
			wantProved(t, changed(chain, i, func(s *api.Step) { s.Q = padded(s.Q, n) }))
			wantProved(t, changed(chain, i, func(s *api.Step) { s.A = padded(s.A, n) }))
		}
	}
	wantSpot(t, proof(api.Step{P: api.Nat{0, 0}, Q: api.Nat{2}, A: api.Nat{2}}), 0, api.ErrEven)
	wantSpot(t, proof(api.Step{P: api.Nat{1, 0}, Q: api.Nat{2}, A: api.Nat{2}}), 0, api.ErrEven)
	wantSpot(t, proof(api.Step{P: api.Nat{3}, Q: api.Nat{1, 0}, A: api.Nat{2}}), 0, api.ErrProof)
	wantSpot(t, proof(api.Step{P: api.Nat{3}, Q: api.Nat{2}, A: api.Nat{1, 0}}), 0, api.ErrProof)
}

// P3.2: a P of 32 limbs can be proved, one of 33 can't, though it is a prime.
func TestLengthOfP(t *testing.T) {
	good, long := greatChain(t, limbs32), greatChain(t, limbs33)
	if len(good[0].P) != 32 || len(long[0].P) != 33 {
		t.Fatal(len(good[0].P), len(long[0].P))
	}
	wantProved(t, good)
	wantProved(t, changed(good, 0, func(s *api.Step) { s.P = padded(s.P, 40) }))
	wantSpot(t, long, 0, api.ErrLong)
	wantSpot(t, proof(api.Step{P: full(32), Q: full(32), A: api.Nat{2}}), 0, api.ErrProof)
}

// P3.2: a Q or an A of 64 limbs is no proof, one of 65 is too long.
func TestLengthOfQAndA(t *testing.T) {
	chain := ordinary(t)
	for i := range chain {
		wantSpot(t, changed(chain, i, func(s *api.Step) { s.Q = full(64) }), uint64(i), api.ErrProof)
		wantSpot(t, changed(chain, i, func(s *api.Step) { s.A = full(64) }), uint64(i), api.ErrProof)
		wantSpot(t, changed(chain, i, func(s *api.Step) { s.Q = padded(full(64), 3) }), uint64(i), api.ErrProof)
		wantSpot(t, changed(chain, i, func(s *api.Step) { s.A = padded(full(64), 3) }), uint64(i), api.ErrProof)
		wantSpot(t, changed(chain, i, func(s *api.Step) { s.Q = append(make(api.Nat, 64), 1) }), uint64(i), api.ErrLong)
		wantSpot(t, changed(chain, i, func(s *api.Step) { s.A = append(make(api.Nat, 64), 1) }), uint64(i), api.ErrLong)
		wantSpot(t, changed(chain, i, func(s *api.Step) { s.A = full(2000) }), uint64(i), api.ErrLong)
	}
	// An A that is a witness but for what it has above P is none: it isn't reduced.
	wantSpot(t, changed(chain, 0, func(s *api.Step) { s.A = plus(s.P, 2) }), 0, api.ErrProof)
}

// P3.2: P even, or less than 3; 3 is the least P that is proved.
func TestEvenP(t *testing.T) {
	for _, p := range []api.Nat{nil, {0}, {1}, {2}, {4}, {100546}, {ones - 1}, {0, 1}, append(make(api.Nat, 31), 1<<63)} {
		wantSpot(t, proof(api.Step{P: p, Q: api.Nat{50273}, A: api.Nat{2}}), 0, api.ErrEven)
	}
	wantProved(t, proof(step(3, 2, 2)))
	wantSpot(t, proof(step(3, 2, 2), step(2, 2, 2)), 1, api.ErrEven)
}

// P3.2: what a Q may not be, each time with all else as it should be where that can be.
func TestWrongQ(t *testing.T) {
	for _, s := range []api.Step{
		step(3, 0, 2), step(3, 1, 2), step(100547, 0, 2), step(100547, 1, 2), step(100547, 2, 2),
		step(7, 2, 3), step(13, 3, 2), step(31, 5, 3), step(307, 17, 5), // the square is just below P
		step(9, 3, 2), step(49, 7, 3), step(65521*65521, 65521, 2), // the square is P
		step(100547, 50287, 2), step(100547, 65521, 2), step(5, 3, 2), // no divisor
		step(11, 11, 2), step(7, 7, 3), // P itself is no divisor of P - 1
		step(11, 10, 2), step(31, 6, 3), step(37, 9, 2), step(37, 12, 2), // no primes
	} {
		wantSpot(t, proof(s), 0, api.ErrProof)
	}
	// The square is just above P.
	for q := uint64(2); q < 65536; q++ {
		if p := q*q - q + 1; isPrime(q) && (q < 100 || q > 65000) && isPrime(p) {
			wantProved(t, proof(stepTo(t, toBig(api.Nat{p}), toBig(api.Nat{q}))))
		}
	}
	// A prime that is just too great to be small; a Q of several limbs of which the lowest alone is a small prime.
	for _, q := range []api.Nat{{65537}, {65539}, {13, 1}} {
		wantSpot(t, proof(leastStep(t, toBig(q))), 0, api.ErrProof)
	}
}

// P3.2: A of 0, 1, 2, P - 1 and P.
func TestWrongA(t *testing.T) {
	wantSpot(t, proof(step(100547, 50273, 0)), 0, api.ErrProof)
	wantSpot(t, proof(step(100547, 50273, 1)), 0, api.ErrProof)
	wantProved(t, proof(step(100547, 50273, 2)))
	// P - 1 to an even power is 1, so it is a witness only where Q is 2.
	wantSpot(t, proof(step(100547, 50273, 100546)), 0, api.ErrProof)
	wantProved(t, proof(step(3, 2, 2)))
	wantProved(t, proof(step(100547, 50273, 100545)))
	for _, a := range []uint64{100547, 100548, 100549, 2 * 100547, ones} {
		wantSpot(t, proof(step(100547, 50273, a)), 0, api.ErrProof)
	}
	wantSpot(t, proof(step(3, 2, 3)), 0, api.ErrProof)
	wantSpot(t, proof(step(3, 2, 5)), 0, api.ErrProof)
}

// P3.2: a step proves its P alone, so the next one must prove its Q, and not another number.
func TestStepsJoin(t *testing.T) {
	chain := ordinary(t)
	wantSpot(t, chain[:2], 1, api.ErrProof)
	wantSpot(t, chain[:1], 0, api.ErrProof)
	wantSpot(t, proof(chain[0], chain[2]), 0, api.ErrProof)
	wantSpot(t, proof(chain[0], chain[0], chain[1], chain[2]), 0, api.ErrProof)
	wantSpot(t, proof(chain[0], chain[1], chain[1], chain[2]), 1, api.ErrProof)
	wantSpot(t, append(copied(chain), step(100547, 50273, 2)), 2, api.ErrProof)
	// Not even a small prime is taken on trust where another step follows.
	wantSpot(t, proof(step(100547, 50273, 2), step(3, 2, 2)), 0, api.ErrProof)
	wantProved(t, proof(step(43, 7, 2), step(7, 3, 3), step(3, 2, 2)))
	wantSpot(t, proof(step(43, 7, 2), step(7, 3, 3), step(3, 2, 2), step(2, 2, 2)), 3, api.ErrEven)
}

// R1: of several errors of a step the first that P3.2 names, and of several steps the first.
func TestFirstError(t *testing.T) {
	long, even, wrong := api.Step{P: full(33)}, step(4, 2, 2), step(9, 2, 2)
	wantSpot(t, proof(api.Step{P: api.Nat{4}, Q: full(65)}), 0, api.ErrLong)
	wantSpot(t, proof(api.Step{P: api.Nat{4}, A: full(65)}), 0, api.ErrLong)
	wantSpot(t, proof(api.Step{P: append(make(api.Nat, 32), 1)}), 0, api.ErrLong)
	wantSpot(t, proof(api.Step{P: api.Nat{9}, Q: api.Nat{1}, A: full(65)}), 0, api.ErrLong)
	wantSpot(t, proof(step(4, 0, 0)), 0, api.ErrEven)
	wantSpot(t, proof(even, long, wrong), 0, api.ErrEven)
	wantSpot(t, proof(wrong, long, even), 0, api.ErrProof)
	wantSpot(t, proof(long, even, wrong), 0, api.ErrLong)
	first := step(895270319, 447635159, 2)
	// The first step joins each of these, or doesn't: then the error is its own.
	wantSpot(t, proof(first, api.Step{P: api.Nat{447635159}, Q: full(65)}), 1, api.ErrLong)
	wantSpot(t, proof(first, step(447635159, 0, 0)), 1, api.ErrProof)
	wantSpot(t, proof(first, even), 0, api.ErrProof)
	wantSpot(t, proof(first, long), 0, api.ErrProof)
	wantSpot(t, proof(first), 0, api.ErrProof)
}

// spotOf is what P3.2 says of a step of small numbers: 0 where it says nothing.
func spotOf(s api.Step) api.Code {
	p := toBig(s.P)
	if p.Bit(0) == 0 || p.Cmp(big.NewInt(3)) < 0 {
		return api.ErrEven
	}
	if !proves(p, toBig(s.Q), toBig(s.A)) {
		return api.ErrProof
	}
	return 0
}

// P3.2: all steps of small numbers, alone and ahead of a step that gets no further than its Q.
func TestAllSmallSteps(t *testing.T) {
	for p := range uint64(100) {
		for q := range p + 3 {
			for a := range p + 3 {
				s := step(p, q, a)
				last := step(q, 0, 0)
				switch code := spotOf(s); {
				case code != 0:
					wantSpot(t, proof(s), 0, code)
					wantSpot(t, proof(s, last), 0, code)
				case !isPrime(q):
					wantSpot(t, proof(s), 0, api.ErrProof)
					wantSpot(t, proof(s, last), 1, spotOf(last))
				default:
					wantProved(t, proof(s))
					wantSpot(t, proof(s, last), 1, spotOf(last))
				}
			}
		}
	}
}

// P3.2: a witness that shows a common divisor between 1 and P fails at its own step, not at a later one. Only a Q that is no prime lets it get so far.
func TestCommonDivisor(t *testing.T) {
	found := 0
	for p := uint64(9); p < 700; p += 2 {
		for q := uint64(2); q < p; q++ {
			if q*q <= p || (p-1)%q != 0 {
				continue
			}
			for a := uint64(2); a < p; a++ {
				if divisor := divisorOf(p, q, a); divisor > 1 && divisor < p {
					found++
					wantSpot(t, proof(step(p, q, a), step(q, 0, 0)), 0, api.ErrProof)
				}
			}
		}
	}
	if found == 0 {
		t.Error("no such step was found")
	}
}

// divisorOf is the common divisor of P3.2, where A to the P - 1 is 1; otherwise 0.
func divisorOf(p, q, a uint64) uint64 {
	m, base := new(big.Int).SetUint64(p), new(big.Int).SetUint64(a)
	if new(big.Int).Exp(base, new(big.Int).SetUint64(p-1), m).Cmp(one) != 0 {
		return 0
	}
	root := new(big.Int).Exp(base, new(big.Int).SetUint64((p-1)/q), m)
	return new(big.Int).GCD(nil, nil, root.Sub(root, one), m).Uint64()
}

// P3.2: great proofs, each spoilt at each step in each number.
func TestSpoiltProofs(t *testing.T) {
	chain := greatChain(t, limbs32)
	wantSpot(t, changed(chain, 0, func(s *api.Step) { s.P = plus(s.P, 1) }), 0, api.ErrEven)
	for i := range chain {
		at := uint64(i)
		// Another P is none that the step before it asks for.
		wantSpot(t, changed(chain, i, func(s *api.Step) { s.P = plus(s.P, 2) }), max(at, 1)-1, api.ErrProof)
		wantSpot(t, changed(chain, i, func(s *api.Step) { s.Q = plus(s.Q, -1) }), at, api.ErrProof)
		wantSpot(t, changed(chain, i, func(s *api.Step) { s.A = api.Nat{1} }), at, api.ErrProof)
		wantSpot(t, changed(chain, i, func(s *api.Step) { s.A = plus(s.P, -1) }), at, api.ErrProof)
	}
	if got, err := prime.Check(chain); err != nil || !slices.Equal(got, chain[0].P) {
		t.Error(got, err)
	}
}
