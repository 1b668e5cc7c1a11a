package nat_test

import (
	"math/rand"
	"slices"
	"testing"

	"treenail/api"
	"treenail/nat"
)

// must stops a test at an error.
func must(t *testing.T, a api.Nat, err error) api.Nat {
	t.Helper()
	if err != nil {
		t.Fatal(err)
	}
	return a
}

// P1.5: a sum without one summand is the other one.
func TestSumsUndone(t *testing.T) {
	eachPair(func(a, b api.Nat) {
		s, err := nat.Add(a, b)
		if must(t, s, err); len(s) > api.MaxLimbs {
			return
		}
		x, err := nat.Sub(s, b)
		must(t, x, err)
		y, err := nat.Sub(s, a)
		must(t, y, err)
		if !slices.Equal(x, nat.Norm(a)) || !slices.Equal(y, nat.Norm(b)) {
			t.Fatalf("%x and %x: %x and %x", a, b, x, y)
		}
	})
}

// P1.5: a product over one factor is the other one, without remainder.
func TestProductsUndone(t *testing.T) {
	eachPair(func(a, b api.Nat) {
		p, err := nat.Mul(a, b)
		if must(t, p, err); len(p) > api.MaxLimbs || nat.Bits(b) == 0 {
			return
		}
		q, r, err := nat.Div(p, b)
		if err != nil || !slices.Equal(q, nat.Norm(a)) || len(r) != 0 {
			t.Fatalf("%x times %x over it: %x and %x, %v", a, b, q, r, err)
		}
	})
}

// P1.5: the quotient times b plus the remainder is a, and the remainder is less than b.
func TestQuotientsUndone(t *testing.T) {
	eachPair(func(a, b api.Nat) {
		if nat.Bits(b) == 0 {
			return
		}
		q, r, err := nat.Div(a, b)
		must(t, q, err)
		p, err := nat.Mul(q, b)
		must(t, p, err)
		s, err := nat.Add(p, r)
		if must(t, s, err); !slices.Equal(s, nat.Norm(a)) || nat.Cmp(r, b) >= 0 {
			t.Fatalf("%x over %x: %x and %x", a, b, q, r)
		}
	})
}

// P1.5: From inverts Bytes.
func TestBytesUndone(t *testing.T) {
	r := rand.New(rand.NewSource(15))
	for n := range 65 {
		for _, a := range []api.Nat{some(r, n), full(n), padded(some(r, n), 2)} {
			for _, room := range []int{(nat.Bits(a) + 7) / 8, 8 * n, 512} {
				b, err := nat.Bytes(a, room)
				if err != nil {
					t.Fatal(err)
				}
				if got, err := nat.From(b); err != nil || !slices.Equal(got, nat.Norm(a)) {
					t.Fatalf("%x in %d bytes comes back as %x, %v", a, room, got, err)
				}
			}
		}
	}
}
