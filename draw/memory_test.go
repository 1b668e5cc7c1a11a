package draw_test

import (
	"slices"
	"sync"
	"testing"

	"treenail/api"
	"treenail/draw"
)

// whole is a list with the room behind it.
func whole[E any](a []E) []E { return a[:cap(a)] }

// roomy is a list with room behind it that holds something: what a call must not write to.
func roomy[E byte | uint64](a []E) []E {
	return append(slices.Clone(a), 77, 78, 79)[:len(a)]
}

// overwrite spoils a list and the room behind it.
func overwrite[E byte | uint64 | int](a []E) {
	for i := range whole(a) {
		whole(a)[i] = 0x5d
	}
}

// R2: the seed stays as it was, and whoever writes to it later changes no draw.
func TestSeedIsNotKept(t *testing.T) {
	for _, seed := range seeds() {
		s := roomy([]byte(seed))
		was := slices.Clone(whole(s))
		d, m := draw.New(s), &model{seed: []byte(seed)}
		wantBytes(t, d, 40, m.draw(40))
		if !slices.Equal(whole(s), was) {
			t.Fatalf("seed %q has changed", seed)
		}
		overwrite(s)
		wantBytes(t, d, 40, m.draw(40))
		wantBelow(t, d, api.Nat{50273}, m.below(toBig(api.Nat{50273})))
		wantPerm(t, d, 9, m)
	}
}

// R2: numbers handed in stay as they were, also when answers are written to.
func TestBoundsStay(t *testing.T) {
	d := draw.New([]byte("s"))
	all := bounds()
	for _, c := range wrongBounds() {
		all = append(all, c.m)
	}
	for _, bound := range all {
		m := api.Nat(roomy(bound))
		was := slices.Clone(whole(m))
		for range 5 {
			z, _ := d.Below(m)
			overwrite(z)
			l, _ := d.Scalars(m, 5)
			for _, z := range l {
				overwrite(z)
			}
		}
		if !slices.Equal(whole(m), was) {
			t.Fatalf("the number %x has changed", bound)
		}
	}
}

// R2: whoever writes to a number that was handed in, or to an answer, changes no other answer, neither one given nor one to come.
func TestAnswersAreNew(t *testing.T) {
	for _, bound := range bounds() {
		d, m := both("s")
		bent := api.Nat(roomy(bound))
		z, err := d.Below(bent)
		want := m.below(toBig(bound))
		l, errs := d.Scalars(bent, 4)
		if err != nil || errs != nil {
			t.Fatal(err, errs)
		}
		overwrite(bent)
		if toBig(z).Cmp(want) != 0 {
			t.Fatalf("Below(%x) keeps its argument", bound)
		}
		overwrite(z)
		for i := range l {
			if want := m.below(toBig(bound)); toBig(l[i]).Cmp(want) != 0 {
				t.Fatalf("number %d of Scalars(%x, 4) is %x, not %x, behind others that were written to", i, bound, l[i], want)
			}
			overwrite(l[i])
		}
		wantScalars(t, d, bound, 4, m)
	}
}

// R2: bytes and permutations that were written to come out anew.
func TestListsAreNew(t *testing.T) {
	d, m := both("s")
	for _, n := range []int{0, 1, 5, 32, 33, 100} {
		b, err := d.Bytes(n)
		p, errs := d.Perm(n)
		if err != nil || errs != nil {
			t.Fatal(err, errs)
		}
		overwrite(b)
		m.draw(n)
		if !slices.Equal(p, m.perm(n)) {
			t.Fatalf("Perm(%d) changes with bytes", n)
		}
		overwrite(p)
		wantBytes(t, d, n, m.draw(n))
		wantPerm(t, d, n, m)
	}
}

// The package has no state of its own: many generators may draw at once.
func TestManyAtOnce(t *testing.T) {
	var group sync.WaitGroup
	for i := range 8 {
		group.Go(func() {
			d, m := both(string(rune('a' + i)))
			for range 200 {
				p, err := d.Perm(12)
				z, errs := d.Below(api.Nat{895270319})
				if err != nil || errs != nil || !slices.Equal(p, m.perm(12)) || toBig(z).Cmp(m.below(toBig(api.Nat{895270319}))) != 0 {
					t.Errorf("generator %d is disturbed by others", i)
				}
			}
		})
	}
	group.Wait()
}
