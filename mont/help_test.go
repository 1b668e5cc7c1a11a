package mont_test

import (
	"math/big"
	"math/rand"
	"slices"
	"testing"

	"treenail/api"
	"treenail/mont"
)

const ones = 1<<64 - 1

// full is the number of n limbs with all bits set.
func full(n int) api.Nat { return slices.Repeat(api.Nat{ones}, n) }

// power is 2 to the k.
func power(k int) api.Nat { return fromBig(new(big.Int).Lsh(big.NewInt(1), uint(k))) }

// plus is a number and a small one, which may be below 0.
func plus(a api.Nat, k int64) api.Nat { return fromBig(new(big.Int).Add(toBig(a), big.NewInt(k))) }

// product is the product of some numbers, by means that have nothing to do with the package.
func product(l ...api.Nat) api.Nat {
	z := big.NewInt(1)
	for _, a := range l {
		z.Mul(z, toBig(a))
	}
	return fromBig(z)
}

// padded is a number told with n zeros at its end.
func padded(a api.Nat, n int) api.Nat { return append(slices.Clone(a), make(api.Nat, n)...) }

// some is a number of n limbs, with limbs of all bits or none more often than chance would have it.
func some(r *rand.Rand, n int) api.Nat {
	a := make(api.Nat, n)
	for i := range a {
		a[i] = []uint64{0, ones, r.Uint64(), r.Uint64() >> r.Intn(64)}[r.Intn(4)]
	}
	if n > 0 {
		a[n-1] = max(a[n-1], 1)
	}
	return a
}

// toBig reads a number by means that have nothing to do with the package.
func toBig(a api.Nat) *big.Int {
	z := new(big.Int)
	for _, limb := range slices.Backward(a) {
		z.Lsh(z, 64).Or(z, new(big.Int).SetUint64(limb))
	}
	return z
}

// fromBig tells a number in limbs.
func fromBig(z *big.Int) api.Nat {
	var a api.Nat
	low := new(big.Int).SetUint64(ones)
	for z = new(big.Int).Set(z); z.Sign() > 0; z.Rsh(z, 64) {
		a = append(a, new(big.Int).And(z, low).Uint64())
	}
	return a
}

// modulo is a Mod that must come about.
func modulo(t *testing.T, m api.Nat) *mont.Mod {
	t.Helper()
	r, err := mont.New(m)
	if err != nil || r == nil {
		t.Fatalf("New(%x): %v, %v", m, r, err)
	}
	return r
}

// wantNumber checks a number and that it has no zeros at its end; the answer goes in as it came from a call.
func wantNumber(t *testing.T, got api.Nat, err error, want *big.Int, what string, with ...api.Nat) {
	t.Helper()
	if err != nil || toBig(got).Cmp(want) != 0 {
		t.Fatalf("%s %x is %x, %v, not %x", what, with, got, err, want)
	}
	if n := len(got); n > 0 && got[n-1] == 0 {
		t.Fatalf("%s %x has zeros at its end: %x", what, with, got)
	}
}

// wantError checks that an error is the plain code, and that the number beside it is empty.
func wantError(t *testing.T, got api.Nat, err error, want api.Code, what string, with ...api.Nat) {
	t.Helper()
	if err != want || len(got) != 0 {
		t.Fatalf("%s %x is %x and error %v, not %v", what, with, got, err, want)
	}
}

// moduli are odd numbers from 3 to 32 limbs: primes and others, and those at which carries show.
func moduli() []api.Nat {
	l := []api.Nat{
		{3}, {5}, {9}, {15}, {23}, {65537}, {895270319}, {1<<63 + 1}, {ones - 58}, {ones},
		{1, 1}, {ones, 1}, {1, 1 << 63}, {ones, 0, 1}, {1, 0, ones}, {1<<63 + 1, ones, ones},
		plus(power(127), -1), plus(power(521), -1), plus(power(1279), -1),
	}
	r := rand.New(rand.NewSource(21))
	for _, n := range []int{2, 7, 32} {
		a := some(r, n)
		a[0] |= 1
		l = append(l, a, full(n), plus(power(64*(n-1)), 1), plus(power(64*n-1), 1))
	}
	return l
}

// argumentsFor are numbers at, below and above a modulus, up to 64 limbs.
func argumentsFor(r *rand.Rand, m api.Nat) []api.Nat {
	l := []api.Nat{
		nil, {0}, {0, 0, 0}, {1}, {1, 0}, {2}, {ones}, {0, 1},
		plus(m, -1), m, padded(m, 2), plus(m, 1), plus(m, -2), product(m, api.Nat{2}), plus(product(m, m), -1),
		full(64), padded(full(64), 5), power(64*64 - 1),
	}
	for _, n := range []int{1, len(m), 2 * len(m), 33, 64} {
		l = append(l, some(r, n), padded(some(r, n), 1))
	}
	return l
}

// eachArgument goes through all moduli, and for each of them through arguments.
func eachArgument(t *testing.T, try func(r *mont.Mod, m, a api.Nat)) {
	t.Helper()
	source := rand.New(rand.NewSource(20))
	for _, m := range moduli() {
		r := modulo(t, m)
		for _, a := range argumentsFor(source, m) {
			try(r, m, a)
		}
	}
}

// eachCase goes through all moduli, and for each of them through pairs of arguments.
func eachCase(t *testing.T, try func(r *mont.Mod, m *big.Int, a, b api.Nat)) {
	t.Helper()
	source := rand.New(rand.NewSource(22))
	for _, m := range moduli() {
		r := modulo(t, m)
		l := argumentsFor(source, m)
		for _, a := range l {
			for _, b := range l {
				try(r, toBig(m), a, b)
			}
		}
	}
}
