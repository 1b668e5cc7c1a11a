package prime_test

import (
	"math/big"
	"slices"
	"testing"

	"treenail/api"
	"treenail/prime"
)

const ones = 1<<64 - 1

// one is the number 1 of the means by which the tests reckon.
var one = big.NewInt(1)

// full is the number of n limbs with all bits set.
func full(n int) api.Nat { return slices.Repeat(api.Nat{ones}, n) }

// padded is a number told with n zeros at its end.
func padded(a api.Nat, n int) api.Nat { return append(slices.Clone(a), make(api.Nat, n)...) }

// toBig reads a number by means that have nothing to do with the package.
func toBig(a api.Nat) *big.Int {
	z := new(big.Int)
	for _, limb := range slices.Backward(a) {
		z.Lsh(z, 64).Or(z, new(big.Int).SetUint64(limb))
	}
	return z
}

// fromBig tells a number in limbs.
func fromBig(z *big.Int) api.Nat {
	var a api.Nat
	low := new(big.Int).SetUint64(ones)
	for z = new(big.Int).Set(z); z.Sign() > 0; z.Rsh(z, 64) {
		a = append(a, new(big.Int).And(z, low).Uint64())
	}
	return a
}

// plus is a number and a small one, which may be below 0.
func plus(a api.Nat, k int64) api.Nat { return fromBig(new(big.Int).Add(toBig(a), big.NewInt(k))) }

// number is a number of one limb, or of none.
func number(n uint64) api.Nat {
	if n == 0 {
		return nil
	}
	return api.Nat{n}
}

// step is a step of small numbers.
func step(p, q, a uint64) api.Step { return api.Step{P: number(p), Q: number(q), A: number(a)} }

// proof is a chain of steps.
func proof(steps ...api.Step) []api.Step { return steps }

// copied is a chain that shares nothing with another.
func copied(chain []api.Step) []api.Step {
	l := make([]api.Step, len(chain))
	for i, s := range chain {
		l[i] = api.Step{P: slices.Clone(s.P), Q: slices.Clone(s.Q), A: slices.Clone(s.A)}
	}
	return l
}

// changed is a copy of a chain of which one step is changed.
func changed(chain []api.Step, at int, change func(s *api.Step)) []api.Step {
	l := copied(chain)
	change(&l[at])
	return l
}

// isPrime divides by every number up to the square root: slow, and beyond doubt.
func isPrime(n uint64) bool {
	for d := uint64(2); d*d <= n; d++ {
		if n%d == 0 {
			return false
		}
	}
	return n >= 2
}

// wantProved checks that a chain proves the P of its first step, told without zeros at its end.
func wantProved(t *testing.T, chain []api.Step) {
	t.Helper()
	got, err := prime.Check(chain)
	if err != nil || !slices.Equal(got, fromBig(toBig(chain[0].P))) {
		t.Fatalf("Check(%x) is %x, %v", chain, got, err)
	}
}

// wantSpot checks that an error is a Spot itself, not one that wraps it, at its step, that its Err is a plain code, and that there is no number beside it.
func wantSpot(t *testing.T, chain []api.Step, at uint64, want api.Code) {
	t.Helper()
	got, err := prime.Check(chain)
	spot, ok := err.(*api.Spot)
	if !ok || spot == nil || spot.At != at || spot.Err != want || got != nil {
		t.Fatalf("Check(%x) is %x and error %v, not %v at %d", chain, got, err, want, at)
	}
}

// wantArg checks that an error is ErrArg itself.
func wantArg(t *testing.T, chain []api.Step) {
	t.Helper()
	got, err := prime.Check(chain)
	if err != api.ErrArg || got != nil {
		t.Fatalf("Check of %d steps is %x and error %v", len(chain), got, err)
	}
}

// witnesses tells what P3.2 asks of an A, with the powers and the divisor told in full.
func witnesses(p, q, a *big.Int) bool {
	less := new(big.Int).Sub(p, one)
	if a.Cmp(one) <= 0 || a.Cmp(less) > 0 || new(big.Int).Exp(a, less, p).Cmp(one) != 0 {
		return false
	}
	root := new(big.Int).Exp(a, new(big.Int).Div(less, q), p)
	return new(big.Int).GCD(nil, nil, root.Sub(root, one), p).Cmp(one) == 0
}

// proves tells what P3.2 asks of a step on its own, where P is odd and at least 3.
func proves(p, q, a *big.Int) bool {
	if q.Cmp(one) <= 0 || new(big.Int).Mul(q, q).Cmp(p) <= 0 {
		return false
	}
	return new(big.Int).Mod(new(big.Int).Sub(p, one), q).Sign() == 0 && witnesses(p, q, a)
}

// stepTo is a step from Q to a prime P, with the least witness.
func stepTo(t *testing.T, p, q *big.Int) api.Step {
	t.Helper()
	for a := int64(2); a < 1000; a++ {
		if witnesses(p, q, big.NewInt(a)) {
			return api.Step{P: fromBig(p), Q: fromBig(q), A: api.Nat{uint64(a)}}
		}
	}
	t.Fatalf("no witness for %x", p)
	return api.Step{}
}

// leastStep is a step from Q to the least prime P above it that Q can prove.
func leastStep(t *testing.T, q *big.Int) api.Step {
	t.Helper()
	p := new(big.Int).Add(q, one)
	for p.Add(p, q); !p.ProbablyPrime(10); p.Add(p, q) {
	}
	return stepTo(t, p, q)
}

// longChain is a proof of n steps.
func longChain(t *testing.T, n int) []api.Step {
	t.Helper()
	var chain []api.Step
	q := big.NewInt(65521)
	for range n {
		chain = append(chain, leastStep(t, q))
		q = toBig(chain[len(chain)-1].P)
	}
	slices.Reverse(chain)
	return chain
}

// greatChain is a proof of a prime of 32 limbs, or, where the last step is another, of one of 33.
func greatChain(t *testing.T, last [2]int64) []api.Step {
	t.Helper()
	var chain []api.Step
	q := big.NewInt(65521)
	// Of each P about how many bits it has, less one, and which factor of Q makes a prime: found once, since the search is long.
	rows := [][2]int64{{30, 19}, {58, 14}, {114, 10}, {226, 51}, {450, 502}, {898, 76}, {1040, 262}, last}
	for _, row := range rows {
		factor := new(big.Int).Lsh(one, uint(row[0])-uint(q.BitLen())+1)
		factor.Add(factor, big.NewInt(2*row[1]))
		p := new(big.Int).Add(factor.Mul(factor, q), one)
		chain = append(chain, stepTo(t, p, q))
		q = p
	}
	slices.Reverse(chain)
	return chain
}

// limbs32 and limbs33 are last steps of greatChain.
var limbs32, limbs33 = [2]int64{2047, 629}, [2]int64{2048, 310}
