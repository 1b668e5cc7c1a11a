package draw_test

import (
	"math/big"
	"slices"
	"testing"

	"treenail/api"
	"treenail/draw"
)

// wantScalars checks an answer of Scalars.
func wantScalars(t *testing.T, d *draw.Draws, bound api.Nat, n int, m *model) {
	t.Helper()
	got, err := d.Scalars(bound, n)
	if err != nil || len(got) != n {
		t.Fatalf("Scalars(%x, %d): %d of them, %v", bound, n, len(got), err)
	}
	for i, z := range got {
		if want := m.below(toBig(bound)); !slices.Equal(z, fromBig(want)) {
			t.Fatalf("number %d of Scalars(%x, %d) is %x, not %x", i, bound, n, z, want)
		}
	}
	wantCount(t, d, m.counter)
}

// P6.3: numbers that were worked out elsewhere.
func TestScalarsKnown(t *testing.T) {
	d := draw.New([]byte("s"))
	got, err := d.Scalars(api.Nat{50273}, 5)
	want := []api.Nat{{17252}, {11389}, {21533}, {49545}, {24648}}
	if err != nil || !slices.EqualFunc(got, want, slices.Equal[api.Nat]) {
		t.Error(got, err)
	}
	wantCount(t, d, 8)
}

// P6.3: none, one, several and most, below numbers of all edges.
func TestScalarsAreBelows(t *testing.T) {
	for _, bound := range bounds() {
		d, m := both("scalars")
		for _, n := range []int{0, 1, 2, 0, 7, 40} {
			wantScalars(t, d, bound, n, m)
		}
	}
	d, m := both("most")
	for _, bound := range []api.Nat{{1}, {50273}, {895270319}, {ones, ones}} {
		wantScalars(t, d, bound, 4095, m)
		wantScalars(t, d, bound, api.MaxDraw, m)
	}
	wantScalars(t, d, full(32), api.MaxDraw, m)
}

// P6.3: Scalars draws as Below does that is called as often.
func TestScalarsLikeBelow(t *testing.T) {
	one, other := draw.New([]byte("s")), draw.New([]byte("s"))
	l, err := one.Scalars(api.Nat{0, 0, 3}, 50)
	if err != nil {
		t.Fatal(err)
	}
	for _, z := range l {
		wantBelow(t, other, api.Nat{0, 0, 3}, toBig(z))
	}
	wantCount(t, one, other.Count())
}

// P6.3: none are drawn without a draw.
func TestScalarsNone(t *testing.T) {
	d := draw.New([]byte("s"))
	for _, bound := range bounds() {
		if l, err := d.Scalars(bound, 0); err != nil || len(l) != 0 {
			t.Fatalf("Scalars(%x, 0) is %x, %v", bound, l, err)
		}
		wantCount(t, d, 0)
	}
}

// P6.3, P6.4, R1, P1: a wrong count comes first, then a wrong number, also where none are asked for; no draw is made.
func TestScalarsWrong(t *testing.T) {
	d, m := both("s")
	check := func(bound api.Nat, n int, want api.Code) {
		t.Helper()
		count := d.Count()
		l, err := d.Scalars(bound, n)
		wantError(t, "Scalars", len(l), err, want)
		wantCount(t, d, count)
		wantBelow(t, d, api.Nat{1000}, m.below(big.NewInt(1000)))
	}
	for _, n := range wrongCounts() {
		for _, bound := range bounds() {
			check(bound, n, api.ErrArg)
		}
		for _, c := range wrongBounds() {
			check(c.m, n, api.ErrArg)
		}
	}
	for _, n := range []int{0, 1, 5, 4095, api.MaxDraw} {
		for _, c := range wrongBounds() {
			check(c.m, n, c.want)
		}
	}
}
