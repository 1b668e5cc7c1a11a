package sigma_test

import (
	"math/rand"
	"slices"
	"sync"
	"testing"

	"treenail/api"
)

// roomy is a list with room behind it that holds something: what a call must not write to.
func roomy[E any](l []E, behind ...E) []E { return slices.Concat(l, behind)[:len(l)] }

// whole is a list with the room behind it.
func whole[E any](l []E) []E { return l[:cap(l)] }

// roomyNat is a number with room behind it.
func roomyNat(a api.Nat) api.Nat { return roomy(a, 77, 78, 79) }

// numbers are all numbers of arguments.
func (a *arguments) numbers() []*api.Nat {
	l := []*api.Nat{&a.s, &a.k, &a.y, &a.a, &a.d}
	for _, p := range a.proofs() {
		l = append(l, &p.E, &p.Z)
	}
	return l
}

// roomyAll are arguments that share nothing with others, with room behind all that is in them.
func roomyAll(a *arguments) *arguments {
	z := *a
	z.context = roomy(a.context, 'm', 'o', 'r', 'e')
	for _, n := range z.numbers() {
		*n = roomyNat(*n)
	}
	return &z
}

// everything is all that is in arguments, lengths and room included, in one list.
func (a *arguments) everything() api.Nat {
	z := api.Nat{uint64(len(a.context))}
	for _, b := range whole(a.context) {
		z = append(z, uint64(b))
	}
	for _, n := range a.numbers() {
		z = append(append(z, uint64(len(*n))), whole(*n)...)
	}
	return z
}

// overwrite spoils a number and the room behind it.
func overwrite(a api.Nat) {
	for i := range whole(a) {
		whole(a)[i] = 0x5d5d
	}
}

// spoil overwrites all that is in arguments.
func (a *arguments) spoil() {
	for i := range whole(a.context) {
		whole(a.context)[i] ^= 0x5d
	}
	for _, n := range a.numbers() {
		overwrite(*n)
	}
}

// told is a copy of a proof.
func told(p api.Proof) api.Proof { return api.Proof{E: slices.Clone(p.E), Z: slices.Clone(p.Z)} }

// eachSharing goes through all calls with arguments that a call might hand on as they are, and others, wrong ones among them.
func eachSharing(t *testing.T, try func(c call, a *arguments)) {
	t.Helper()
	r := rand.New(rand.NewSource(150))
	for _, s := range settings(t) {
		for range 10 {
			zeros := s.of([]byte("zeros"), padded(s.scalar(r), 2), padded(s.scalar(r), 1), padded(s.element(r), 3))
			zeros.y, zeros.d = padded(zeros.y, 1), padded(zeros.d, 2)
			// Here Z is k, or E, or both.
			noSecret := s.of(nil, nil, s.scalar(r), api.Nat{1})
			noBlind := s.of(nil, api.Nat{1}, nil, fromBig(s.g))
			wrong := s.right(r)
			wrong.y, wrong.a, wrong.context = api.Nat{0, 0}, fromBig(s.p), []byte("wrong")
			long := s.right(r)
			long.s, long.known.Z, long.same.E, long.signed.Z = full(65), full(65), full(65), full(65)
			unproven := s.right(r)
			unproven.eachProof(func(p *api.Proof) { p.E = timesPlus(fromBig(s.q), api.Nat{1}, p.E) })
			for _, c := range calls() {
				for _, z := range []*arguments{s.right(r), zeros, noSecret, noBlind, wrong, long, unproven} {
					try(c, z)
				}
			}
		}
	}
}

// P8.5, R2: arguments stay as they were, also when an answer is written to; and an answer is no part of the group.
func TestArgumentsStay(t *testing.T) {
	eachSharing(t, func(c call, a *arguments) {
		z := roomyAll(a)
		was := z.everything()
		got, err := c.run(z)
		before := told(got)
		overwrite(got.E)
		overwrite(got.Z)
		if !slices.Equal(z.everything(), was) {
			t.Fatalf("%s: an argument has changed", c.name)
		}
		if again, errAgain := c.run(z); !sameProof(again, before) || err != errAgain {
			t.Fatalf("%s: %x, then %x; %v, then %v", c.name, before, again, err, errAgain)
		}
	})
}

// P8.5, R2: whoever writes to an argument later changes no answer, neither one given nor one to come.
func TestArgumentsAreNotKept(t *testing.T) {
	eachSharing(t, func(c call, a *arguments) {
		z := roomyAll(a)
		got, err := c.run(z)
		before := told(got)
		z.spoil()
		again, errAgain := c.run(roomyAll(a))
		if !sameProof(got, before) || !sameProof(again, before) || err != errAgain {
			t.Fatalf("%s: an argument is kept", c.name)
		}
	})
}

// R2: the numbers of a proof are apart, and told without zeros at their end.
func TestNumbersAreApart(t *testing.T) {
	eachSharing(t, func(c call, a *arguments) {
		got, _ := c.run(a)
		for _, n := range []api.Nat{got.E, got.Z} {
			if len(n) > 0 && n[len(n)-1] == 0 {
				t.Fatalf("%s: %x has zeros at its end", c.name, n)
			}
		}
		before := told(got)
		overwrite(got.E)
		if !slices.Equal(got.Z, before.Z) {
			t.Fatalf("%s: E and Z share their memory", c.name)
		}
		copy(got.E, before.E)
		overwrite(got.Z)
		if !slices.Equal(got.E, before.E) {
			t.Fatalf("%s: Z and E share their memory", c.name)
		}
	})
}

// P8.5: one number in all places where it may stand.
func TestOneNumberEverywhere(t *testing.T) {
	for _, s := range settings(t) {
		for _, number := range []api.Nat{{1}, {4}, {9, 0}, s.elements()[2]} {
			was := slices.Clone(number)
			p := api.Proof{E: number, Z: number}
			a := &arguments{s.x, []byte("c"), number, number, number, number, number, p, p, p}
			for _, c := range calls() {
				got, err := c.run(a)
				want, errApart := c.run(roomyAll(a))
				if err != errApart || !sameProof(got, want) || c.makes() && err != nil {
					t.Fatalf("%s of %x alone: %x, not %x; %v, %v", c.name, number, got, want, err, errApart)
				}
				overwrite(got.E)
				overwrite(got.Z)
				if !slices.Equal(number, was) {
					t.Fatalf("%s of %x alone: it has become %x", c.name, was, number)
				}
			}
		}
	}
}

// The layer keeps nothing from call to call: many callers at once get what one alone gets, all with the same arguments.
func TestManyAtOnce(t *testing.T) {
	r := rand.New(rand.NewSource(151))
	for _, s := range settings(t) {
		a := roomyAll(s.right(r))
		var want []api.Proof
		for _, c := range calls() {
			got, err := c.run(a)
			if err != nil {
				t.Fatal(err)
			}
			want = append(want, got)
		}
		var all sync.WaitGroup
		for range 8 {
			all.Go(func() {
				for range 5 {
					for i, c := range calls() {
						if got, err := c.run(a); err != nil || !sameProof(got, want[i]) {
							t.Errorf("%s, many at once: %x, %v", c.name, got, err)
						}
					}
				}
			})
		}
		all.Wait()
	}
}
