package nat_test

import (
	"math/big"
	"math/rand"
	"slices"
	"testing"

	"treenail/api"
)

const ones = 1<<64 - 1

// full is the number of n limbs with all bits set.
func full(n int) api.Nat {
	a := make(api.Nat, n)
	for i := range a {
		a[i] = ones
	}
	return a
}

// power is 2 to the k.
func power(k int) api.Nat {
	a := make(api.Nat, k/64+1)
	a[k/64] = 1 << (k % 64)
	return a
}

// padded is a number told with n zeros at its end.
func padded(a api.Nat, n int) api.Nat {
	return append(slices.Clone(a), make(api.Nat, n)...)
}

// some is a number of n limbs, with limbs of all bits or none more often than chance would have it.
func some(r *rand.Rand, n int) api.Nat {
	a := make(api.Nat, n)
	for i := range a {
		switch r.Intn(4) {
		case 0:
			a[i] = 0
		case 1:
			a[i] = ones
		default:
			a[i] = r.Uint64() >> r.Intn(64)
		}
	}
	if n > 0 && a[n-1] == 0 {
		a[n-1] = 1
	}
	return a
}

// toBig reads a number by means that have nothing to do with the package.
func toBig(a api.Nat) *big.Int {
	z := new(big.Int)
	for i := len(a) - 1; i >= 0; i-- {
		z.Lsh(z, 64)
		z.Or(z, new(big.Int).SetUint64(a[i]))
	}
	return z
}

// wantNumber checks a number, and that it has no zeros at its end.
func wantNumber(t *testing.T, what string, got api.Nat, want *big.Int) {
	t.Helper()
	if toBig(got).Cmp(want) != 0 {
		t.Errorf("%s is %x, not %x", what, toBig(got), want)
	}
	if n := len(got); n > 0 && got[n-1] == 0 {
		t.Errorf("%s has zeros at its end: %x", what, got)
	}
}

// wantError checks that an error is the plain code, and that the lists beside it are empty.
func wantError(t *testing.T, what string, err error, want api.Code, lists ...api.Nat) {
	t.Helper()
	if err != want {
		t.Errorf("%s: error %v, not %v", what, err, want)
	}
	for _, l := range lists {
		if len(l) != 0 {
			t.Errorf("%s: %x beside an error", what, l)
		}
	}
}
