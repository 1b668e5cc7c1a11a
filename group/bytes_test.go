package group_test

import (
	"bytes"
	"math/big"
	"math/rand"
	"testing"

	"treenail/api"
	"treenail/group"
)

// sizeOf is how many bytes an element can represent, counted up.
func sizeOf(q *big.Int) int {
	n := 0
	for new(big.Int).Lsh(one, uint(8*(n+1))).Cmp(q) <= 0 {
		n++
	}
	return n
}

// encoded checks Encode of bytes of the right length, and answers the element.
func encoded(t *testing.T, x *group.Group, b []byte) api.Nat {
	t.Helper()
	p := toBig(x.P())
	want := new(big.Int).SetBytes(b)
	if want.Add(want, one); !isElement(p, fromBig(want)) {
		want.Sub(p, want)
	}
	z, err := x.Encode(b)
	if err != nil || toBig(z).Cmp(want) != 0 || len(z) != len(fromBig(want)) {
		t.Fatalf("Encode(%x) modulo %x is %x, %v, not %x", b, p, z, err, want)
	}
	return z
}

// decoded checks Decode of any number.
func decoded(t *testing.T, x *group.Group, a api.Nat) {
	t.Helper()
	b, err := x.Decode(a)
	if !isElement(toBig(x.P()), a) {
		plainError(t, b, err, api.ErrGroup, "Decode", x.P(), a)
		return
	}
	number := toBig(a)
	if number.Cmp(toBig(x.Q())) > 0 {
		number.Sub(toBig(x.P()), number)
	}
	number.Sub(number, one)
	if size := sizeOf(toBig(x.Q())); number.BitLen() > 8*size {
		plainError(t, b, err, api.ErrLong, "Decode", x.P(), a)
	} else if want := number.FillBytes(make([]byte, size)); err != nil || !bytes.Equal(b, want) {
		t.Fatalf("Decode(%x) modulo %x is %x, %v, not %x", a, x.P(), b, err, want)
	}
}

// P4.3: Size in groups of all lengths, by name.
func TestSize(t *testing.T) {
	want := []int{1, 1, 3, 7, 7, 8, 31, 63}
	for i, g := range ordinary() {
		x := made(t, g)
		if x.Size() != want[i] || x.Size() != sizeOf(toBig(x.Q())) {
			t.Errorf("Size modulo %x is %d", x.P(), x.Size())
		}
	}
	if n := made(t, greatest()).Size(); n != 255 {
		t.Errorf("Size of the greatest is %d", n)
	}
}

// P4.3: Size where Q is next to a power of 256, below and above.
func TestSizeAtPowers(t *testing.T) {
	for n := 2; n <= 9; n++ {
		power := new(big.Int).Lsh(one, uint(8*n))
		below, above := made(t, nearest(power, -1)), made(t, nearest(power, 1))
		if below.Size() != n-1 || above.Size() != n {
			t.Errorf("Size about 256 to the %d: %d and %d", n, below.Size(), above.Size())
		}
		for _, x := range []*group.Group{below, above} {
			decoded(t, x, encoded(t, x, bytes.Repeat([]byte{0xff}, x.Size())))
			decoded(t, x, x.Q())
			decoded(t, x, plus(x.Q(), 1))
			z, err := x.Encode(make([]byte, n+1))
			plainError(t, z, err, api.ErrArg, "Encode", x.P())
		}
	}
}

// P4.3: Encode of bytes of all kinds.
func TestEncode(t *testing.T) {
	r := rand.New(rand.NewSource(44))
	for _, g := range append(ordinary(), greatest()) {
		x := made(t, g)
		b := make([]byte, x.Size())
		encoded(t, x, b)
		encoded(t, x, bytes.Repeat([]byte{0xff}, x.Size()))
		for _, k := range []byte{1, 2, 3, 0x7f, 0x80, 0xfe, 0xff} {
			b[len(b)-1] = k
			encoded(t, x, b)
		}
		for range 20 {
			r.Read(b)
			encoded(t, x, b)
		}
	}
	// All zeros are the number 1, which is an element.
	if z := encoded(t, made(t, thirtyBits()), make([]byte, 3)); len(z) != 1 || z[0] != 1 {
		t.Errorf("Encode of zeros is %x", z)
	}
}

// P4.3: Encode of bytes that are too few or too many, whatever they are.
func TestEncodeWrongLength(t *testing.T) {
	for _, g := range append(ordinary(), greatest()) {
		x := made(t, g)
		for _, n := range []int{0, x.Size() - 1, x.Size() + 1, 2 * x.Size(), 512, 513, 5000} {
			for _, k := range []byte{0, 0xff} {
				z, err := x.Encode(bytes.Repeat([]byte{k}, n))
				plainError(t, z, err, api.ErrArg, "Encode", x.P(), api.Nat{uint64(n)})
			}
		}
		z, err := x.Encode(nil)
		plainError(t, z, err, api.ErrArg, "Encode of nil", x.P())
	}
}

// P4.3: Decode of all numbers of small groups, and of some beyond P.
func TestDecodeAll(t *testing.T) {
	for n := range uint64(2 * 563) {
		decoded(t, made(t, least()), number(n))
	}
	x := made(t, chapters())
	for n := uint64(0); n < 2*100547; n += 7 {
		decoded(t, x, number(n))
		decoded(t, x, padded(number(n), 2))
	}
}

// P4.3: Decode of numbers at the edges, in groups of all lengths.
func TestDecode(t *testing.T) {
	r := rand.New(rand.NewSource(45))
	for _, g := range append(ordinary(), greatest()) {
		x := made(t, g)
		for _, a := range argumentsFor(r, x.P(), x.Q()) {
			decoded(t, x, a)
		}
		b, err := x.Decode(api.Nat{1})
		if err != nil || !bytes.Equal(b, make([]byte, x.Size())) {
			t.Errorf("Decode(1) is %x, %v", b, err)
		}
		for _, a := range []api.Nat{nil, plus(x.P(), -1), x.P(), plus(x.P(), 1), plus(x.P(), 4), full(65)} {
			b, err := x.Decode(a)
			plainError(t, b, err, api.ErrGroup, "Decode", x.P(), a)
		}
	}
}

// P4.3: the greatest number that fits, and the least that doesn't, and their opposites.
func TestDecodeAtTheSize(t *testing.T) {
	for _, g := range append(ordinary(), greatest()) {
		x := made(t, g)
		power := fromBig(new(big.Int).Lsh(one, uint(8*x.Size())))
		for k := int64(-3); k <= 3; k++ {
			a := plus(power, k)
			decoded(t, x, a)
			decoded(t, x, fromBig(new(big.Int).Sub(toBig(x.P()), toBig(a))))
		}
	}
}

// P4.3: Decode at Q, by name: of Q and Q and 1 just one is an element, and their number is Q either way.
func TestDecodeAtTheOrder(t *testing.T) {
	for _, g := range append(ordinary(), greatest()) {
		x := made(t, g)
		element, other := x.Q(), plus(x.Q(), 1)
		if x.Is(api.Nat{2}) {
			element, other = other, element
		}
		b, err := x.Decode(other)
		plainError(t, b, err, api.ErrGroup, "Decode", x.P(), other)
		b, err = x.Decode(element)
		plainError(t, b, err, api.ErrLong, "Decode", x.P(), element)
	}
}
