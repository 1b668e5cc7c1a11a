package draw_test

import (
	"math/rand"
	"slices"
	"testing"

	"treenail/api"
	"treenail/draw"
)

// told is what a call answers, and how many draws were made then.
type told struct {
	bytes []byte
	below api.Nat
	l     []api.Nat
	perm  []int
	err   error
	count int
}

// same tells whether two calls answered the same.
func (a told) same(b told) bool {
	return slices.Equal(a.bytes, b.bytes) && slices.Equal(a.below, b.below) && slices.EqualFunc(a.l, b.l, slices.Equal[api.Nat]) && slices.Equal(a.perm, b.perm) && a.err == b.err && a.count == b.count
}

// anyCall makes a call that the source chooses, wrong ones among them.
func anyCall(r *rand.Rand, d *draw.Draws) told {
	bound := append(bounds(), nil, full(33))[r.Intn(len(bounds())+2)]
	n := r.Intn(60) - 3
	var z told
	switch r.Intn(4) {
	case 0:
		z.bytes, z.err = d.Bytes(n)
	case 1:
		z.below, z.err = d.Below(bound)
	case 2:
		z.l, z.err = d.Scalars(bound, n)
	default:
		z.perm, z.err = d.Perm(n)
	}
	z.count = d.Count()
	return z
}

// P6.5, R3: generators with the same seed draw the same, whatever others are asked meanwhile, and with errors between.
func TestSameSeedSameDraws(t *testing.T) {
	for _, seed := range []string{"", "s", "treenail"} {
		var first []told
		one := draw.New([]byte(seed))
		r := rand.New(rand.NewSource(61))
		for range 400 {
			first = append(first, anyCall(r, one))
		}
		two, three := draw.New([]byte(seed)), draw.New([]byte(seed))
		noise := draw.New([]byte(seed + "'"))
		r2, r3, r4 := rand.New(rand.NewSource(61)), rand.New(rand.NewSource(61)), rand.New(rand.NewSource(62))
		for i := range first {
			z := anyCall(r2, two)
			anyCall(r4, noise)
			if !z.same(first[i]) || !anyCall(r3, three).same(first[i]) {
				t.Fatalf("call %d of seed %q: %v, not %v", i, seed, z, first[i])
			}
		}
	}
}

// P6.5: two generators with the same seed know nothing of one another: one that is behind isn't moved on.
func TestGeneratorsAreApart(t *testing.T) {
	seed := []byte("s")
	one, two := draw.New(seed), draw.New(seed)
	for range 10 {
		if _, err := one.Bytes(8); err != nil {
			t.Fatal(err)
		}
	}
	wantCount(t, one, 10)
	wantCount(t, two, 0)
	m := &model{seed: seed}
	for range 20 {
		wantBytes(t, two, 8, m.draw(8))
	}
	wantCount(t, one, 10)
	wantCount(t, draw.New(seed), 0)
}

// P6.4: with an error the counter stays, however many there are.
func TestErrorsDrawNothing(t *testing.T) {
	d, m := both("s")
	for range 1000 {
		d.Bytes(-1)
		d.Below(nil)
		d.Below(full(33))
		d.Scalars(nil, 3)
		d.Scalars(full(33), 0)
		d.Scalars(api.Nat{5}, 4097)
		d.Perm(-1)
	}
	wantCount(t, d, 0)
	wantBytes(t, d, 32, m.draw(32))
	wantCount(t, d, 1)
}

// P6.5: a permutation has each number once.
func TestPermHasEachOnce(t *testing.T) {
	for _, seed := range seeds() {
		d := draw.New([]byte(seed))
		for _, n := range []int{0, 1, 2, 3, 10, 255, 256, 257, 700} {
			p, err := d.Perm(n)
			if err != nil || len(p) != n {
				t.Fatal(n, p, err)
			}
			slices.Sort(p)
			for i, x := range p {
				if i != x {
					t.Fatalf("Perm(%d) of seed %q, sorted, is %d", n, seed, p)
				}
			}
		}
	}
}

// P6.5: all permutations of four numbers are drawn, none much more often than the others.
func TestPermReachesAll(t *testing.T) {
	d := draw.New([]byte("all"))
	seen := map[[4]int]int{}
	for range 2400 {
		p, err := d.Perm(4)
		if err != nil {
			t.Fatal(err)
		}
		seen[[4]int(p)]++
	}
	if len(seen) != 24 {
		t.Errorf("%d permutations of 24", len(seen))
	}
	for p, n := range seen {
		if n < 50 || n > 200 {
			t.Errorf("%d of 2400 permutations are %d", n, p)
		}
	}
}

// P6.5: Below and Scalars are less than m.
func TestBelowIsLess(t *testing.T) {
	d := draw.New([]byte("less"))
	for _, bound := range bounds() {
		l, err := d.Scalars(bound, 100)
		if err != nil {
			t.Fatal(err)
		}
		for range 100 {
			z, err := d.Below(bound)
			if err != nil {
				t.Fatal(err)
			}
			l = append(l, z)
		}
		for _, z := range l {
			if toBig(z).Cmp(toBig(bound)) >= 0 || len(z) > 0 && z[len(z)-1] == 0 {
				t.Fatalf("%x was drawn below %x", z, bound)
			}
		}
	}
}
