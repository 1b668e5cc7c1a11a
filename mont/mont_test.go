package mont_test

import (
	"math/big"
	"slices"
	"testing"

	"treenail/api"
	"treenail/mont"
)

// P2.1
func TestNew(t *testing.T) {
	for _, m := range moduli() {
		for zeros := range 3 {
			if got := modulo(t, padded(m, zeros)).Modulus(); !slices.Equal(got, m) {
				t.Errorf("the modulus %x with %d zeros behind it is %x", m, zeros, got)
			}
		}
	}
	for m := uint64(3); m < 1000; m += 2 {
		if got := modulo(t, api.Nat{m}).Modulus(); !slices.Equal(got, api.Nat{m}) {
			t.Errorf("the modulus %d is %x", m, got)
		}
	}
	if got := modulo(t, padded(full(32), 100)).Modulus(); !slices.Equal(got, full(32)) {
		t.Errorf("the longest modulus is %x", got)
	}
}

// P2.1: even moduli, and those below 3.
func TestNewOfNoModulus(t *testing.T) {
	for _, m := range []api.Nat{
		nil, {}, {0}, {0, 0}, make(api.Nat, 100), {1}, {1, 0}, padded(api.Nat{1}, 100), {2}, {4}, {6, 0}, {ones - 1},
		{0, 1}, {2, 1}, {0, ones}, {ones - 1, ones}, plus(full(32), -1), power(32*64 - 1), padded(power(32*64-1), 9),
	} {
		if r, err := mont.New(m); r != nil || err != api.ErrEven {
			t.Errorf("New(%x) is %v, %v", m, r, err)
		}
	}
}

// P2.1, R1: ErrLong comes ahead of ErrEven; zeros at the end don't count.
func TestNewOfLongModulus(t *testing.T) {
	for _, m := range []api.Nat{full(33), power(32 * 64), plus(power(32*64), 1), padded(full(33), 2), plus(full(33), -1), full(64), full(65), power(64 * 64), full(5000)} {
		if r, err := mont.New(m); r != nil || err != api.ErrLong {
			t.Errorf("New of %d limbs is %v, %v", len(m), r, err)
		}
	}
}

// P2.2
func TestReduce(t *testing.T) {
	eachArgument(t, func(r *mont.Mod, m, a api.Nat) {
		got, err := r.Reduce(a)
		wantNumber(t, got, err, new(big.Int).Mod(toBig(a), toBig(m)), "Reduce", m, a)
	})
}

// P2.2
func TestAdd(t *testing.T) {
	eachCase(t, func(r *mont.Mod, m *big.Int, a, b api.Nat) {
		got, err := r.Add(a, b)
		want := new(big.Int).Add(toBig(a), toBig(b))
		wantNumber(t, got, err, want.Mod(want, m), "Add", r.Modulus(), a, b)
	})
}

// P2.2: differences below 0 too. (Mod of math/big is from 0 to m - 1 for these as well.)
func TestSub(t *testing.T) {
	eachCase(t, func(r *mont.Mod, m *big.Int, a, b api.Nat) {
		got, err := r.Sub(a, b)
		want := new(big.Int).Sub(toBig(a), toBig(b))
		wantNumber(t, got, err, want.Mod(want, m), "Sub", r.Modulus(), a, b)
	})
}

// P2.2
func TestMul(t *testing.T) {
	eachCase(t, func(r *mont.Mod, m *big.Int, a, b api.Nat) {
		got, err := r.Mul(a, b)
		want := new(big.Int).Mul(toBig(a), toBig(b))
		wantNumber(t, got, err, want.Mod(want, m), "Mul", r.Modulus(), a, b)
	})
}

// P2.2: all residues, and numbers a bit above, of small moduli.
func TestSmallModuli(t *testing.T) {
	for m := int64(3); m <= 33; m += 2 {
		r := modulo(t, api.Nat{uint64(m)})
		for a := range 2*m + 1 {
			for b := range 2*m + 1 {
				x, y := api.Nat{uint64(a)}, api.Nat{uint64(b)}
				sum, err := r.Add(x, y)
				wantNumber(t, sum, err, big.NewInt((a+b)%m), "Add", r.Modulus(), x, y)
				difference, err := r.Sub(x, y)
				wantNumber(t, difference, err, big.NewInt((a-b+2*m)%m), "Sub", r.Modulus(), x, y)
				product, err := r.Mul(x, y)
				wantNumber(t, product, err, big.NewInt(a*b%m), "Mul", r.Modulus(), x, y)
			}
		}
	}
}

// P2.2: each argument alone and both; zeros at the end don't count; ErrLong comes ahead of ErrNone.
func TestLongArguments(t *testing.T) {
	long := []api.Nat{power(64 * 64), full(65), full(66), padded(full(65), 4), full(1000), product(full(32), power(64*40))}
	fine := []api.Nat{nil, {0, 0}, {1}, full(32), full(64), padded(full(64), 100)}
	for _, m := range []api.Nat{{3}, {23}, {ones}, full(32)} {
		r := modulo(t, m)
		for _, c := range callsOf(r) {
			for _, b := range fine {
				if _, err := c.run(fine[5], b); err != nil && (c.name != "Inverse" || err != api.ErrNone) {
					t.Errorf("%s of 64 limbs with zeros behind them: %v", c.name, err)
				}
			}
			for _, a := range long {
				for _, b := range append(fine, long...) {
					got, err := c.run(a, b)
					wantError(t, got, err, api.ErrLong, c.name+" of a long one", a, b)
					if c.both {
						got, err = c.run(b, a)
						wantError(t, got, err, api.ErrLong, c.name+" with a long one", b, a)
					}
				}
			}
		}
	}
}
