package mont_test

import (
	"math/rand"
	"slices"
	"sync"
	"testing"

	"treenail/api"
	"treenail/mont"
)

// call is a call of a Mod; both says whether it takes both arguments.
type call struct {
	name string
	both bool
	run  func(a, b api.Nat) (api.Nat, error)
}

// callsOf are all calls of a Mod that take numbers.
func callsOf(r *mont.Mod) []call {
	return []call{
		{"Reduce", false, func(a, _ api.Nat) (api.Nat, error) { return r.Reduce(a) }},
		{"Add", true, r.Add},
		{"Sub", true, r.Sub},
		{"Mul", true, r.Mul},
		{"Exp", true, r.Exp},
		{"Inverse", false, func(a, _ api.Nat) (api.Nat, error) { return r.Inverse(a) }},
	}
}

// roomy is a number with room behind it that holds something: what a call must not write to.
func roomy(a api.Nat) api.Nat {
	b := append(slices.Clone(a), 77, 78, 79)
	return b[:len(a)]
}

// whole is a list with the room behind it.
func whole(a api.Nat) api.Nat { return a[:cap(a)] }

// overwrite spoils a list and the room behind it.
func overwrite(a api.Nat) {
	for i := range whole(a) {
		whole(a)[i] = 0xdead
	}
}

// eachSharing goes through arguments of few moduli: those that a call might hand on as they are, and others.
func eachSharing(t *testing.T, try func(r *mont.Mod, m, a, b api.Nat)) {
	t.Helper()
	source := rand.New(rand.NewSource(28))
	for _, m := range []api.Nat{{3}, {23}, {ones}, {1, 1}, full(3)} {
		r := modulo(t, m)
		l := []api.Nat{nil, {0, 0}, {1}, {1, 0}, {2}, plus(m, -1), m, plus(m, 1), some(source, len(m)), full(5), full(65)}
		for _, a := range l {
			for _, b := range l {
				try(r, m, a, b)
			}
		}
	}
}

// P2.3, R2: arguments stay as they were, also when an answer is written to, and no answer is part of the Mod.
func TestArgumentsStay(t *testing.T) {
	eachSharing(t, func(r *mont.Mod, m, a, b api.Nat) {
		for _, c := range callsOf(r) {
			x, y := roomy(a), roomy(b)
			wasX, wasY := slices.Clone(whole(x)), slices.Clone(whole(y))
			answer, err := c.run(x, y)
			before := slices.Clone(answer)
			overwrite(answer)
			if !slices.Equal(whole(x), wasX) || !slices.Equal(whole(y), wasY) {
				t.Fatalf("%s(%x, %x) modulo %x: an argument has changed", c.name, a, b, m)
			}
			again, errAgain := c.run(x, y)
			if !slices.Equal(again, before) || err != errAgain || !slices.Equal(r.Modulus(), m) {
				t.Fatalf("%s(%x, %x) modulo %x: an answer is part of the Mod", c.name, a, b, m)
			}
		}
	})
}

// P2.3, R2: whoever writes to an argument later changes no answer, neither one given nor one to come.
func TestArgumentsAreNotKept(t *testing.T) {
	eachSharing(t, func(r *mont.Mod, m, a, b api.Nat) {
		for _, c := range callsOf(r) {
			x, y := roomy(a), roomy(b)
			answer, _ := c.run(x, y)
			before := slices.Clone(answer)
			overwrite(x)
			overwrite(y)
			again, _ := c.run(roomy(a), roomy(b))
			if !slices.Equal(answer, before) || !slices.Equal(again, before) {
				t.Fatalf("%s(%x, %x) modulo %x: an argument is kept", c.name, a, b, m)
			}
		}
	})
}

// P2.3, R2: one list as both arguments.
func TestOneListTwice(t *testing.T) {
	eachSharing(t, func(r *mont.Mod, m, a, _ api.Nat) {
		for _, c := range callsOf(r) {
			x := roomy(a)
			was := slices.Clone(whole(x))
			got, err := c.run(x, x)
			want, wantErr := c.run(a, slices.Clone(a))
			if !slices.Equal(got, want) || err != wantErr || !slices.Equal(whole(x), was) {
				t.Fatalf("%s(%x, the same) modulo %x is %x, %v", c.name, a, m, got, err)
			}
		}
	})
}

// P2.3, R2: New keeps a modulus of its own, and Modulus hands out another.
func TestModulusIsItsOwn(t *testing.T) {
	for _, m := range []api.Nat{{3}, {23, 0}, {ones}, {1, 1}, full(32), padded(full(32), 2)} {
		argument := roomy(m)
		was := slices.Clone(whole(argument))
		r := modulo(t, argument)
		if !slices.Equal(whole(argument), was) {
			t.Fatalf("New(%x) has changed its argument", m)
		}
		want := r.Modulus()
		before, _ := r.Exp(api.Nat{2}, full(3))
		overwrite(argument)
		overwrite(r.Modulus())
		after, err := r.Exp(api.Nat{2}, full(3))
		if !slices.Equal(r.Modulus(), want) || !slices.Equal(after, before) || err != nil {
			t.Fatalf("the modulus %x has become %x", m, r.Modulus())
		}
	}
}

// P2.3: many callers at once get what one alone gets, all with the same arguments.
func TestManyAtOnce(t *testing.T) {
	source := rand.New(rand.NewSource(29))
	for _, m := range []api.Nat{{895270319}, plus(power(521), -1), full(32)} {
		r := modulo(t, m)
		a, e := some(source, 2*len(m)), some(source, 2)
		var want []api.Nat
		for _, c := range callsOf(r) {
			z, _ := c.run(a, e)
			want = append(want, z)
		}
		var all sync.WaitGroup
		for range 16 {
			all.Go(func() {
				for range 10 {
					for i, c := range callsOf(r) {
						if got, _ := c.run(a, e); !slices.Equal(got, want[i]) {
							t.Errorf("%s modulo %x, many at once: %x", c.name, m, got)
						}
					}
					if !slices.Equal(r.Modulus(), m) {
						t.Errorf("Modulus, many at once: %x", r.Modulus())
					}
				}
			})
		}
		all.Wait()
	}
}
