package mont_test

import (
	"errors"
	"math/big"
	"math/rand"
	"slices"
	"testing"

	"treenail/api"
	"treenail/mont"
)

// chain makes calls whose errors would be a fault of the test's promise, and keeps the first one.
type chain struct {
	*mont.Mod
	err error
}

func (c *chain) keep(a api.Nat, err error) api.Nat {
	c.err = errors.Join(c.err, err)
	return a
}

func (c *chain) add(a, b api.Nat) api.Nat { return c.keep(c.Add(a, b)) }
func (c *chain) sub(a, b api.Nat) api.Nat { return c.keep(c.Sub(a, b)) }
func (c *chain) mul(a, b api.Nat) api.Nat { return c.keep(c.Mul(a, b)) }
func (c *chain) exp(a, e api.Nat) api.Nat { return c.keep(c.Exp(a, e)) }

// want checks that two ways to the same number are.
func (c *chain) want(t *testing.T, what string, got, want api.Nat) {
	t.Helper()
	if c.err != nil || !slices.Equal(got, want) {
		t.Fatalf("%s modulo %x: %x and %x, %v", what, c.Modulus(), got, want, c.err)
	}
}

// P2.4: sums of exponents are products, products in the base are products.
func TestPowersOfSumsAndProducts(t *testing.T) {
	source := rand.New(rand.NewSource(26))
	for _, m := range moduli() {
		c := &chain{Mod: modulo(t, m)}
		for range 5 {
			a, b := some(source, 1+source.Intn(64)), some(source, 1+source.Intn(64))
			e, f := some(source, 1+source.Intn(8)), some(source, source.Intn(8))
			sum := fromBig(new(big.Int).Add(toBig(e), toBig(f)))
			c.want(t, "a power by a sum", c.exp(a, sum), c.mul(c.exp(a, e), c.exp(a, f)))
			c.want(t, "a power of a product", c.exp(c.mul(a, b), e), c.mul(c.exp(a, e), c.exp(b, e)))
		}
	}
}

// P2.4: a number times its inverse has the residue 1, and the inverse is a residue.
func TestInversesUndo(t *testing.T) {
	undone := 0
	eachArgument(t, func(r *mont.Mod, m, a api.Nat) {
		z, err := r.Inverse(a)
		if err != nil {
			return
		}
		undone++
		c := &chain{Mod: r}
		c.want(t, "a number times its inverse", c.mul(a, z), api.Nat{1})
		if toBig(z).Cmp(toBig(m)) >= 0 {
			t.Fatalf("Inverse(%x) modulo %x is %x", a, m, z)
		}
	})
	if undone < len(moduli()) {
		t.Errorf("%d inverses in all", undone)
	}
}

// P2.4: (a - b) + b has the residue of a.
func TestDifferencesUndone(t *testing.T) {
	eachCase(t, func(r *mont.Mod, _ *big.Int, a, b api.Nat) {
		c := &chain{Mod: r}
		c.want(t, "a difference undone", c.add(c.sub(a, b), b), c.keep(c.Reduce(a)))
	})
}
