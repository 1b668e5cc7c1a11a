package group_test

import (
	"bytes"
	"errors"
	"math/rand"
	"slices"
	"testing"

	"treenail/api"
	"treenail/group"
)

// chain makes calls whose errors would be a fault of the promise, and keeps them.
type chain struct {
	*group.Group
	err error
}

func (c *chain) keep(a api.Nat, err error) api.Nat {
	c.err = errors.Join(c.err, err)
	return a
}

func (c *chain) mul(a, b api.Nat) api.Nat  { return c.keep(c.Mul(a, b)) }
func (c *chain) over(a, b api.Nat) api.Nat { return c.keep(c.Over(a, b)) }
func (c *chain) exp(a, s api.Nat) api.Nat  { return c.keep(c.Exp(a, s)) }
func (c *chain) base(s api.Nat) api.Nat    { return c.keep(c.Base(s)) }

// want checks that two ways to the same element are, and that it is one.
func (c *chain) want(t *testing.T, what string, got, want api.Nat) {
	t.Helper()
	if c.err != nil || !slices.Equal(got, want) || !c.Is(got) {
		t.Fatalf("%s modulo %x: %x and %x, %v", what, c.P(), got, want, c.err)
	}
}

// P4.5: products, quotients and powers of elements are elements: all of a small group.
func TestAllAreElements(t *testing.T) {
	c := &chain{Group: made(t, least())}
	var l []api.Nat
	for n := range uint64(563) {
		if c.Is(number(n)) {
			l = append(l, number(n))
		}
	}
	if len(l) != 281 {
		t.Fatalf("%d elements", len(l))
	}
	for _, a := range l {
		for i, b := range l {
			if i%5 == int(a[0]%5) {
				c.want(t, "a product, divided", c.over(c.mul(a, b), b), a)
				c.want(t, "a quotient, multiplied", c.mul(c.over(a, b), b), a)
			}
		}
		c.want(t, "a power", c.exp(a, a), c.exp(a, plus(a, 281)))
	}
}

// P4.5: the same of great elements, with the laws of powers, which need scalars modulo Q alone.
func TestPowersAreElements(t *testing.T) {
	r := rand.New(rand.NewSource(46))
	for _, g := range ordinary() {
		c := &chain{Group: made(t, g)}
		scalars := c.Scalars()
		for range 10 {
			s, u := some(r, 1+r.Intn(64)), some(r, 1+r.Intn(64))
			a, b := c.base(s), c.base(u)
			sum, difference, both := c.keep(scalars.Add(s, u)), c.keep(scalars.Sub(s, u)), c.keep(scalars.Mul(s, u))
			c.want(t, "a product of powers", c.mul(a, b), c.base(sum))
			c.want(t, "a quotient of powers", c.over(a, b), c.base(difference))
			c.want(t, "a power of a power", c.exp(a, u), c.base(both))
			c.want(t, "a quotient of itself", c.over(a, a), api.Nat{1})
			c.want(t, "a power of a product", c.exp(c.mul(a, b), s), c.mul(c.exp(a, s), c.exp(b, s)))
		}
	}
}

// The group has the order Q: the powers of G below it are all elements, each once.
func TestGeneratorMakesAll(t *testing.T) {
	x := made(t, least())
	seen := map[uint64]int{}
	for s := range uint64(281) {
		z, err := x.Base(number(s))
		if err != nil || !x.Is(z) {
			t.Fatal(z, err)
		}
		seen[z[0]]++
	}
	if len(seen) != 281 {
		t.Errorf("%d elements", len(seen))
	}
}

// P4.5: Decode inverts Encode: all bytes of small groups, and bytes of great ones.
func TestDecodeInverts(t *testing.T) {
	r := rand.New(rand.NewSource(47))
	inverted := func(x *group.Group, b []byte) {
		t.Helper()
		z, err := x.Encode(b)
		if err != nil || !isElement(toBig(x.P()), z) {
			t.Fatalf("Encode(%x) modulo %x is %x, %v", b, x.P(), z, err)
		}
		if got, err := x.Decode(z); err != nil || !bytes.Equal(got, b) {
			t.Fatalf("Decode(Encode(%x)) modulo %x is %x, %v", b, x.P(), got, err)
		}
	}
	for k := range 256 {
		inverted(made(t, least()), []byte{byte(k)})
		inverted(made(t, chapters()), []byte{byte(k)})
	}
	for _, g := range append(ordinary(), greatest()) {
		x := made(t, g)
		b := make([]byte, x.Size())
		inverted(x, b)
		inverted(x, bytes.Repeat([]byte{0xff}, x.Size()))
		for range 20 {
			r.Read(b)
			inverted(x, b)
		}
	}
}

// P4.5: an element that can be decoded is what its bytes encode.
func TestEncodeInverts(t *testing.T) {
	for _, g := range []api.Group{least(), thirtyBits()} {
		x := made(t, g)
		fits := 0
		for s := range uint64(300) {
			a, _ := x.Base(number(s))
			b, err := x.Decode(a)
			if err != nil {
				continue
			}
			fits++
			z, err := x.Encode(b)
			sameNumber(t, z, err, toBig(a), "Encode(Decode)", x.P(), a)
		}
		if fits == 0 {
			t.Errorf("no element modulo %x fits", x.P())
		}
	}
}
