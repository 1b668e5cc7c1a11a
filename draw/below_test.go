package draw_test

import (
	"math/big"
	"testing"

	"treenail/api"
	"treenail/draw"
)

// P6.2: numbers that were worked out elsewhere, one behind another.
func TestBelowKnown(t *testing.T) {
	d := draw.New([]byte("treenail"))
	for _, c := range []struct{ m, want int64 }{{1, 0}, {2, 1}, {3, 2}, {200, 30}, {255, 3}, {256, 145}, {257, 135}, {895270319, 68713277}} {
		wantBelow(t, d, api.Nat{uint64(c.m)}, big.NewInt(c.want))
	}
	wantCount(t, d, 9)
	d = draw.New([]byte("treenail"))
	wantBelow(t, d, api.Nat{ones}, toBig(api.Nat{0x7128109841f4eb80}))
	wantBelow(t, d, api.Nat{1, 1}, toBig(api.Nat{0x2285ff29e5ad522d}))
	wantBelow(t, d, api.Nat{12345, 1 << 63}, toBig(api.Nat{0x52514fc38fbbdf88, 0x1ea82669bc86f1bf}))
	wantCount(t, d, 4)
}

// P6.2: below every number of the edges, several times, with as many draws as the chapter makes.
func TestBelowEdges(t *testing.T) {
	for _, seed := range []string{"", "s", "treenail"} {
		d, m := both(seed)
		for _, bound := range bounds() {
			for range 20 {
				wantBelow(t, d, bound, m.below(toBig(bound)))
				wantCount(t, d, m.counter)
			}
		}
	}
}

// P6.2: below every small number.
func TestBelowSmall(t *testing.T) {
	d, m := both("small")
	for bound := uint64(1); bound <= 1100; bound++ {
		for range 5 {
			wantBelow(t, d, api.Nat{bound}, m.below(new(big.Int).SetUint64(bound)))
			wantCount(t, d, m.counter)
		}
	}
}

// P6.2: below 1 there is 0 alone, and it takes a draw all the same.
func TestBelowOne(t *testing.T) {
	d := draw.New([]byte("s"))
	for i := range 300 {
		wantBelow(t, d, api.Nat{1}, new(big.Int))
		wantCount(t, d, i+1)
	}
}

// P6.2: below a power of 2 one draw is always enough, and all its bits count but those that lead beyond the power.
func TestBelowPowers(t *testing.T) {
	for k := range 2048 {
		d, m := both("powers")
		b := m.draw(max(1, (k+7)/8))
		want := new(big.Int).SetBytes(b)
		want.Mod(want, toBig(power(k)))
		wantBelow(t, d, power(k), want)
		wantCount(t, d, 1)
	}
}

// P6.2: of draws that are not less than m, another one follows, until one is.
func TestBelowTriesAgain(t *testing.T) {
	for _, c := range []struct {
		m    api.Nat
		size int
		mask int64
	}{{api.Nat{3}, 1, 3}, {api.Nat{5}, 1, 7}, {api.Nat{129}, 1, 255}, {api.Nat{200}, 1, 255}, {api.Nat{255}, 1, 255}, {api.Nat{257}, 2, 511}, {api.Nat{65537}, 3, 131071}} {
		d, m := both("again")
		tries := 0
		for range 5000 {
			bound := toBig(c.m)
			z := bound
			for z.Cmp(bound) >= 0 {
				z = new(big.Int).SetBytes(m.draw(c.size))
				z.And(z, big.NewInt(c.mask))
				tries++
			}
			wantBelow(t, d, c.m, z)
			wantCount(t, d, tries)
		}
		if tries == 5000 {
			t.Errorf("below %d no draw was made twice: this tells nothing", c.m)
		}
	}
}

// P6.2: a draw that is m - 1 is taken, one that is m isn't.
func TestBelowAtTheEdge(t *testing.T) {
	for i := range 1000 {
		seed := string([]byte{byte(i), byte(i >> 8)})
		first := new(big.Int).SetBytes((&model{seed: []byte(seed)}).draw(2))
		if first.Cmp(big.NewInt(1<<15)) <= 0 {
			continue // below it, m - 1 would have fewer bits than the draw
		}
		d, m := both(seed)
		wantBelow(t, d, fromBig(new(big.Int).Add(first, big.NewInt(1))), first)
		wantCount(t, d, 1)
		d = draw.New([]byte(seed))
		wantBelow(t, d, fromBig(first), m.below(first))
		if wantCount(t, d, m.counter); m.counter < 2 {
			t.Fatalf("below %d its own draw was taken", first)
		}
	}
}

// P6.2: every number below m is drawn.
func TestBelowReachesAll(t *testing.T) {
	d := draw.New([]byte("all"))
	for m := uint64(1); m <= 20; m++ {
		seen := make([]int, m)
		for range 60 * m {
			z, err := d.Below(api.Nat{m})
			if err != nil || len(z) > 1 {
				t.Fatal(z, err)
			}
			seen[toBig(z).Int64()]++
		}
		for z, n := range seen {
			if n < 10 {
				t.Errorf("%d of %d draws below %d are %d", n, 60*m, m, z)
			}
		}
	}
}

// P6.2: zeros at the end of m don't count.
func TestBelowPadded(t *testing.T) {
	for _, bound := range bounds() {
		want, err := draw.New([]byte("s")).Below(bound)
		if err != nil {
			t.Fatal(err)
		}
		for _, n := range []int{1, 2, 31, 32, 33, 64, 1000} {
			wantBelow(t, draw.New([]byte("s")), padded(bound, n), toBig(want))
		}
	}
}

// P6.2, P6.4, P1: below 0, and below numbers that are too long: no draw is made, and the next one is what it would have been.
func TestBelowWrong(t *testing.T) {
	d, m := both("s")
	for _, c := range wrongBounds() {
		count := d.Count()
		z, err := d.Below(c.m)
		wantError(t, "Below", len(z), err, c.want)
		wantCount(t, d, count)
		wantBelow(t, d, api.Nat{50273}, m.below(big.NewInt(50273)))
		wantCount(t, d, m.counter)
	}
}
