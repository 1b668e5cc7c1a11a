package nat_test

import (
	"math/big"
	"math/rand"
	"testing"

	"treenail/api"
	"treenail/nat"
)

// lengths are those that arguments are tried with: the edges and a few between.
var lengths = []int{0, 1, 2, 3, 7, 31, 32, 33, 63, 64}

// edges are numbers at which carries, borrows and bounds show.
func edges() []api.Nat {
	l := []api.Nat{nil, {0}, {0, 0, 0}, {1}, {1, 0}, {2}, {ones}, {0, 1}, {1 << 63}, {ones, 0, 1}, {0, 0, 1 << 63}}
	for _, n := range lengths {
		l = append(l, full(n), padded(full(n), 2))
		if n > 0 {
			l = append(l, power(64*n-1), power(64*(n-1)))
		}
	}
	return l
}

// eachPair goes through pairs of edges, and of numbers of all lengths.
func eachPair(try func(a, b api.Nat)) {
	l := edges()
	for _, a := range l {
		for _, b := range l {
			try(a, b)
		}
	}
	r := rand.New(rand.NewSource(12))
	for range 20 {
		for _, n := range lengths {
			for _, m := range lengths {
				try(padded(some(r, n), r.Intn(3)), padded(some(r, m), r.Intn(3)))
			}
		}
	}
}

// P1.2
func TestAdd(t *testing.T) {
	eachPair(func(a, b api.Nat) {
		got, err := nat.Add(a, b)
		if err != nil {
			t.Fatalf("Add(%x, %x): %v", a, b, err)
		}
		wantNumber(t, "sum", got, new(big.Int).Add(toBig(a), toBig(b)))
	})
}

// P1.2: the carry goes through all limbs, and the sum may have one more than an argument may.
func TestAddCarriesThroughAll(t *testing.T) {
	for n := range 65 {
		for _, pair := range [][2]api.Nat{{full(n), {1}}, {{1}, full(n)}} {
			got, err := nat.Add(pair[0], pair[1])
			if err != nil || nat.Cmp(got, power(64*n)) != 0 || len(got) != n+1 {
				t.Errorf("2^%d - 1 and 1 are %x, %v", 64*n, got, err)
			}
		}
	}
}

// P1.2
func TestSub(t *testing.T) {
	eachPair(func(a, b api.Nat) {
		got, err := nat.Sub(a, b)
		want := new(big.Int).Sub(toBig(a), toBig(b))
		if want.Sign() < 0 {
			wantError(t, "Sub", err, api.ErrLess, got)
			return
		}
		if err != nil {
			t.Fatalf("Sub(%x, %x): %v", a, b, err)
		}
		wantNumber(t, "difference", got, want)
	})
}

// P1.2: the borrow goes through all limbs.
func TestSubBorrowsThroughAll(t *testing.T) {
	for n := range 64 {
		got, err := nat.Sub(power(64*n), api.Nat{1})
		if err != nil || len(got) != n || nat.Cmp(got, full(n)) != 0 {
			t.Errorf("2^%d without 1 is %x, %v", 64*n, got, err)
		}
		got, err = nat.Sub(full(n), power(64*n))
		wantError(t, "one less", err, api.ErrLess, got)
	}
}

// P1.2
func TestMul(t *testing.T) {
	eachPair(func(a, b api.Nat) {
		got, err := nat.Mul(a, b)
		if err != nil {
			t.Fatalf("Mul(%x, %x): %v", a, b, err)
		}
		wantNumber(t, "product", got, new(big.Int).Mul(toBig(a), toBig(b)))
	})
}

// P1.2: a product of numbers of full length has all its limbs.
func TestMulOfFullLength(t *testing.T) {
	got, err := nat.Mul(full(64), full(64))
	if err != nil || len(got) != 128 || got[0] != 1 || got[63] != 0 || got[64] != ones-1 || got[127] != ones {
		t.Errorf("%x, %v", got, err)
	}
}

// P1.2: ErrLong comes ahead of all others, for either argument; zeros at the end don't count.
func TestLongArguments(t *testing.T) {
	calls := map[string]func(a, b api.Nat) (api.Nat, api.Nat, error){
		"Add": func(a, b api.Nat) (api.Nat, api.Nat, error) { z, err := nat.Add(a, b); return z, nil, err },
		"Sub": func(a, b api.Nat) (api.Nat, api.Nat, error) { z, err := nat.Sub(a, b); return z, nil, err },
		"Mul": func(a, b api.Nat) (api.Nat, api.Nat, error) { z, err := nat.Mul(a, b); return z, nil, err },
		"Div": nat.Div,
	}
	long := []api.Nat{power(64 * 64), full(65), full(66), padded(full(65), 4), full(1000)}
	fine := []api.Nat{nil, {0, 0}, {1}, full(64), padded(full(64), 100)}
	for name, call := range calls {
		for _, a := range long {
			for _, b := range append(fine, long...) {
				x, y, err := call(a, b)
				wantError(t, name+" of a long one", err, api.ErrLong, x, y)
				x, y, err = call(b, a)
				wantError(t, name+" with a long one", err, api.ErrLong, x, y)
			}
		}
		if _, _, err := call(padded(full(64), 100), padded(full(64), 1)); err != nil {
			t.Errorf("%s of 64 limbs with zeros behind them: %v", name, err)
		}
	}
}
