package group_test

import (
	"bytes"
	"math/big"
	"testing"

	"treenail/api"
)

// The examples of the chapter.
func TestExamples(t *testing.T) {
	x := made(t, chapters())
	if n := x.Size(); n != 1 {
		t.Error("Size is", n)
	}
	if !x.Is(api.Nat{4}) || x.Is(api.Nat{2}) || x.Is(nil) {
		t.Error(x.Is(api.Nat{4}), x.Is(api.Nat{2}), x.Is(nil))
	}
	z, err := x.Base(api.Nat{1})
	sameNumber(t, z, err, big.NewInt(4), "Base(1)")
	z, err = x.Base(api.Nat{50273})
	sameNumber(t, z, err, one, "Base(50273)")
	z, err = x.Over(api.Nat{4}, api.Nat{4})
	sameNumber(t, z, err, one, "Over(4, 4)")
	z, err = x.Encode([]byte{7})
	if err != nil {
		t.Fatal(err)
	}
	if b, err := x.Decode(z); err != nil || !bytes.Equal(b, []byte{7}) {
		t.Error(b, err)
	}
	z, err = x.Encode(nil)
	plainError(t, z, err, api.ErrArg, "Encode of no bytes")
}

// The section 'Ways': the methods of the arithmetic modulo P are the group's own.
func TestArithmeticIsPromoted(t *testing.T) {
	for _, g := range ordinary() {
		x := made(t, g)
		p := toBig(x.P())
		sameNumber(t, x.Modulus(), nil, p, "Modulus")
		z, err := x.Reduce(plus(x.P(), 2))
		sameNumber(t, z, err, big.NewInt(2), "Reduce")
		z, err = x.Add(plus(x.P(), -1), api.Nat{3})
		sameNumber(t, z, err, big.NewInt(2), "Add")
		z, err = x.Sub(api.Nat{1}, api.Nat{2})
		sameNumber(t, z, err, new(big.Int).Sub(p, one), "Sub")
		z, err = x.Inverse(api.Nat{2})
		sameNumber(t, z, err, new(big.Int).Add(toBig(x.Q()), one), "Inverse")
	}
}
