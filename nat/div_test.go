package nat_test

import (
	"math/big"
	"testing"

	"treenail/api"
	"treenail/nat"
)

// checkDiv holds a quotient and a remainder against those of another reckoner.
func checkDiv(t *testing.T, a, b api.Nat) {
	t.Helper()
	q, r, err := nat.Div(a, b)
	if toBig(b).Sign() == 0 {
		wantError(t, "Div by 0", err, api.ErrZero, q, r)
		return
	}
	if err != nil {
		t.Fatalf("Div(%x, %x): %v", a, b, err)
	}
	wantQ, wantR := new(big.Int).QuoRem(toBig(a), toBig(b), new(big.Int))
	wantNumber(t, "quotient", q, wantQ)
	wantNumber(t, "remainder", r, wantR)
	if t.Failed() {
		t.Fatalf("Div(%x, %x)", a, b)
	}
}

// P1.2
func TestDiv(t *testing.T) {
	eachPair(func(a, b api.Nat) { checkDiv(t, a, b) })
}

// P1.2: the digits of a quotient are guessed; these are the limbs at which a guess is too great by 1 or by 2, or is bounded.
func TestDivAtTheEdgesOfItsGuesses(t *testing.T) {
	l := []uint64{0, 1, 1<<63 - 1, 1 << 63, ones - 1, ones}
	for _, a0 := range l {
		for _, a1 := range l {
			for _, a2 := range l {
				for _, a3 := range l {
					a := api.Nat{a0, a1, a2, a3}
					for _, b0 := range l {
						checkDiv(t, a, api.Nat{b0})
						for _, b1 := range l {
							checkDiv(t, a, api.Nat{b0, b1})
						}
					}
					checkDiv(t, a, api.Nat{a1, a3, a2})
					checkDiv(t, a, api.Nat{ones, a0, a3})
					checkDiv(t, a, api.Nat{ones, ones, a3})
				}
			}
		}
	}
}

// P1.2: quotients and remainders of full length.
func TestDivOfFullLength(t *testing.T) {
	for _, c := range []struct {
		a, b, q, r api.Nat
	}{
		{full(64), api.Nat{1}, full(64), nil},
		{full(64), full(64), api.Nat{1}, nil},
		{full(63), full(64), nil, full(63)},
		{power(4095), full(64), nil, power(4095)},
		{full(64), power(4095), api.Nat{1}, nil},
		{full(64), full(32), nil, nil},
		{full(64), power(64 * 32), full(32), full(32)},
	} {
		checkDiv(t, c.a, c.b)
		q, r, _ := nat.Div(c.a, c.b)
		if c.q != nil && nat.Cmp(q, c.q) != 0 || c.r != nil && nat.Cmp(r, c.r) != 0 {
			t.Errorf("Div(%x, %x) is %x and %x", c.a, c.b, q, r)
		}
	}
}

// P1.2: the remainder just below the divisor, the dividend just below it, at it and above it.
func TestDivAroundMultiples(t *testing.T) {
	one := big.NewInt(1)
	for _, b := range []api.Nat{{3}, {ones}, {1, 1}, {ones, ones}, full(31), power(64*32 - 1)} {
		for _, k := range []api.Nat{{1}, {2}, {ones}, full(2), full(32)} {
			p := new(big.Int).Mul(toBig(b), toBig(k))
			for _, a := range []*big.Int{new(big.Int).Sub(p, one), p, new(big.Int).Add(p, one)} {
				checkDiv(t, fromBig(a), b)
			}
		}
	}
}

// P1.2
func TestDivByZero(t *testing.T) {
	for _, a := range []api.Nat{nil, {0}, {7}, full(64)} {
		for _, b := range []api.Nat{nil, {0}, make(api.Nat, 100)} {
			q, r, err := nat.Div(a, b)
			wantError(t, "Div by 0", err, api.ErrZero, q, r)
		}
	}
}

// fromBig tells a number in limbs.
func fromBig(z *big.Int) api.Nat {
	var a api.Nat
	low := new(big.Int).SetUint64(ones)
	for z = new(big.Int).Set(z); z.Sign() > 0; z.Rsh(z, 64) {
		a = append(a, new(big.Int).And(z, low).Uint64())
	}
	return a
}
