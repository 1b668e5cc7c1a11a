package nat_test

import (
	"math"
	"math/rand"
	"slices"
	"testing"

	"treenail/api"
	"treenail/nat"
)

// P1.1
func TestNorm(t *testing.T) {
	for _, c := range []struct{ in, want api.Nat }{
		{nil, nil},
		{api.Nat{}, nil},
		{api.Nat{0}, nil},
		{api.Nat{0, 0, 0}, nil},
		{api.Nat{5}, api.Nat{5}},
		{api.Nat{5, 0}, api.Nat{5}},
		{api.Nat{0, 5, 0, 0}, api.Nat{0, 5}},
		{api.Nat{0, 0, 1}, api.Nat{0, 0, 1}},
		{full(64), full(64)},
		{padded(full(64), 1), full(64)},
		{padded(full(65), 3), full(65)},
		{make(api.Nat, 1000), nil},
		{padded(full(200), 200), full(200)},
	} {
		if got := nat.Norm(c.in); !slices.Equal(got, c.want) {
			t.Errorf("Norm(%x) is %x", c.in, got)
		}
	}
}

// P1.1
func TestCmp(t *testing.T) {
	for _, c := range []struct {
		a, b api.Nat
		want int
	}{
		{nil, nil, 0},
		{nil, api.Nat{0, 0}, 0},
		{api.Nat{0}, api.Nat{1}, -1},
		{api.Nat{7}, api.Nat{7}, 0},
		{api.Nat{7}, api.Nat{7, 0, 0}, 0},
		{api.Nat{6, 0, 0}, api.Nat{7}, -1},
		{api.Nat{ones}, api.Nat{0, 1}, -1},
		{api.Nat{1, 2}, api.Nat{2, 1}, 1},
		{api.Nat{1, 2, 3}, api.Nat{2, 2, 3}, -1},
		{api.Nat{1 << 63}, api.Nat{1}, 1},
		{full(64), power(64 * 64), -1},
		{full(65), full(64), 1},
		{full(300), padded(full(300), 5), 0},
	} {
		if got := nat.Cmp(c.a, c.b); got != c.want {
			t.Errorf("Cmp(%x, %x) is %d", c.a, c.b, got)
		}
		if got := nat.Cmp(c.b, c.a); got != -c.want {
			t.Errorf("Cmp(%x, %x) is %d", c.b, c.a, got)
		}
	}
}

// P1.1
func TestCmpOfMany(t *testing.T) {
	r := rand.New(rand.NewSource(11))
	for range 2000 {
		a, b := some(r, r.Intn(4)), some(r, r.Intn(4))
		want := toBig(a).Cmp(toBig(b))
		if got := nat.Cmp(padded(a, r.Intn(3)), padded(b, r.Intn(3))); got != want {
			t.Errorf("Cmp(%x, %x) is %d", a, b, got)
		}
	}
}

// P1.1
func TestBits(t *testing.T) {
	for _, c := range []struct {
		a    api.Nat
		want int
	}{
		{nil, 0},
		{api.Nat{0, 0}, 0},
		{api.Nat{1}, 1},
		{api.Nat{2, 0}, 2},
		{api.Nat{255}, 8},
		{api.Nat{256}, 9},
		{api.Nat{ones}, 64},
		{api.Nat{0, 1}, 65},
		{padded(api.Nat{0, 1}, 9), 65},
		{full(64), 4096},
		{full(65), 4160},
	} {
		if got := nat.Bits(c.a); got != c.want {
			t.Errorf("Bits(%x) is %d", c.a, got)
		}
	}
	for k := range 300 {
		if got := nat.Bits(power(k)); got != k+1 {
			t.Errorf("Bits(2^%d) is %d", k, got)
		}
	}
}

// P1.1
func TestBit(t *testing.T) {
	a := api.Nat{0x8000000000000001, 0, 0x5, 0}
	set := map[int]int{0: 1, 63: 1, 128: 1, 130: 1}
	for i := -200; i < 400; i++ {
		if got := nat.Bit(a, i); got != (set[i] == 1) {
			t.Errorf("bit %d of %x is %v", i, a, got)
		}
	}
	for _, i := range []int{math.MinInt, math.MinInt + 1, -4096, math.MaxInt - 1, math.MaxInt} {
		if nat.Bit(full(64), i) {
			t.Errorf("there is a bit %d", i)
		}
	}
	for _, i := range []int{-1, 0, 1, 64} {
		if nat.Bit(nil, i) || nat.Bit(api.Nat{0, 0}, i) {
			t.Errorf("bit %d of 0 is 1", i)
		}
	}
	if !nat.Bit(full(64), 4095) || nat.Bit(full(64), 4096) || !nat.Bit(full(65), 4159) {
		t.Error("the highest bits of full numbers")
	}
}
