package draw_test

import (
	"math/big"
	"slices"
	"testing"

	"treenail/api"
	"treenail/draw"
)

// wantPerm checks an answer of Perm.
func wantPerm(t *testing.T, d *draw.Draws, n int, m *model) {
	t.Helper()
	got, err := d.Perm(n)
	if want := m.perm(n); err != nil || !slices.Equal(got, want) {
		t.Fatalf("Perm(%d) is %d, not %d; %v", n, got, want, err)
	}
	wantCount(t, d, m.counter)
}

// P6.3: a permutation that was worked out elsewhere.
func TestPermKnown(t *testing.T) {
	d := draw.New([]byte("treenail"))
	got, err := d.Perm(20)
	if err != nil || !slices.Equal(got, []int{19, 12, 13, 8, 14, 1, 6, 16, 11, 15, 7, 18, 0, 5, 9, 10, 4, 3, 2, 17}) {
		t.Error(got, err)
	}
	wantCount(t, d, 28)
}

// P6.3: permutations of no number, of one, of two, of several and of most, one behind another.
func TestPermLengths(t *testing.T) {
	for _, seed := range []string{"", "s", "treenail"} {
		d, m := both(seed)
		for n := range 300 {
			wantPerm(t, d, n, m)
		}
		for _, n := range []int{1000, 4095, api.MaxDraw} {
			wantPerm(t, d, n, m)
		}
	}
}

// P6.3: of no number and of one there is one permutation: it needs no draw.
func TestPermWithoutDraw(t *testing.T) {
	d := draw.New([]byte("s"))
	for n := range 2 {
		if p, err := d.Perm(n); err != nil || len(p) != n || n == 1 && p[0] != 0 {
			t.Error(n, p, err)
		}
		wantCount(t, d, 0)
	}
}

// P6.3: the two numbers are exchanged where the draw below 2 is 0, and stay where it is 1: an element may be exchanged with itself.
func TestPermOfTwo(t *testing.T) {
	one, other := draw.New([]byte("two")), draw.New([]byte("two"))
	exchanged := 0
	for range 100 {
		z, err := other.Below(api.Nat{2})
		if err != nil {
			t.Fatal(err)
		}
		want := []int{0, 1}
		if len(z) == 0 {
			want = []int{1, 0}
			exchanged++
		}
		if p, err := one.Perm(2); err != nil || !slices.Equal(p, want) {
			t.Fatal(p, want, err)
		}
	}
	if exchanged == 0 || exchanged == 100 {
		t.Errorf("of 100 exchanges there are %d", exchanged)
	}
}

// P6.3: Perm is made of Below, from the last place down.
func TestPermByBelow(t *testing.T) {
	one, other := draw.New([]byte("by below")), draw.New([]byte("by below"))
	got, err := one.Perm(50)
	if err != nil {
		t.Fatal(err)
	}
	want := make([]int, 50)
	for i := range want {
		want[i] = i
	}
	for i := 49; i >= 1; i-- {
		z, err := other.Below(api.Nat{uint64(i) + 1})
		if err != nil {
			t.Fatal(err)
		}
		j := toBig(z).Int64()
		want[i], want[j] = want[j], want[i]
	}
	if !slices.Equal(got, want) {
		t.Errorf("%d, not %d", got, want)
	}
	wantCount(t, one, other.Count())
}

// P6.3, P6.4, P1: of fewer than no numbers, and of too many: no draw is made, and the next one is what it would have been.
func TestPermWrong(t *testing.T) {
	d, m := both("s")
	for _, n := range wrongCounts() {
		count := d.Count()
		p, err := d.Perm(n)
		wantError(t, "Perm", len(p), err, api.ErrArg)
		wantCount(t, d, count)
		wantBelow(t, d, api.Nat{1000}, m.below(big.NewInt(1000)))
	}
}
