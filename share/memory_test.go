package share_test

import (
	"math/rand"
	"slices"
	"sync"
	"testing"

	"treenail/api"
)

// roomy is a list with room behind it that holds something: what a call must not write to.
func roomy[E any](l []E, behind ...E) []E { return slices.Concat(l, behind)[:len(l)] }

// whole is a list with the room behind it.
func whole[E any](l []E) []E { return l[:cap(l)] }

// roomyNat is a number with room behind it.
func roomyNat(a api.Nat) api.Nat { return roomy(a, 77, 78, 79) }

// roomyNats are numbers with room behind each and behind all.
func roomyNats(l []api.Nat) []api.Nat {
	z := roomy(l, api.Nat{80}, api.Nat{81})
	for k, a := range whole(z) {
		whole(z)[k] = roomyNat(a)
	}
	return z
}

// roomyShares are shares with room behind each value and behind all.
func roomyShares(l []api.Share) []api.Share {
	z := roomy(l, api.Share{I: 82, V: api.Nat{83}})
	for k, one := range whole(z) {
		whole(z)[k].V = roomyNat(one.V)
	}
	return z
}

// roomyAll are arguments that share nothing with others, with room behind all that is in them.
func roomyAll(a *arguments) *arguments {
	return &arguments{
		a.x, roomyNats(a.poly), a.n, roomyNats(a.commits), a.i, api.Share{I: a.s.I, V: roomyNat(a.s.V)},
		roomy(a.places, 84, 85), a.at, roomyShares(a.l),
	}
}

// numbers are all numbers of arguments, those in the room behind lists included.
func (a *arguments) numbers() []api.Nat {
	z := slices.Concat(whole(a.poly), whole(a.commits), []api.Nat{a.s.V})
	for _, one := range whole(a.l) {
		z = append(z, one.V)
	}
	return z
}

// everything is all that is in arguments, lengths and room included, in one list.
func (a *arguments) everything() api.Nat {
	z := api.Nat{uint64(a.n), uint64(a.i), uint64(a.s.I), uint64(a.at)}
	z = append(z, uint64(len(a.poly)), uint64(len(a.commits)), uint64(len(a.places)), uint64(len(a.l)))
	for _, i := range append(slices.Clone(whole(a.places)), placesOf(whole(a.l))...) {
		z = append(z, uint64(i))
	}
	for _, n := range a.numbers() {
		z = append(append(z, uint64(len(n))), whole(n)...)
	}
	return z
}

// overwrite spoils a number and the room behind it.
func overwrite(a api.Nat) {
	for k := range whole(a) {
		whole(a)[k] = 0x5d5d
	}
}

// spoil overwrites all that is in arguments.
func (a *arguments) spoil() {
	for _, n := range a.numbers() {
		overwrite(n)
	}
	for k := range whole(a.poly) {
		whole(a.poly)[k] = api.Nat{86}
	}
	for k := range whole(a.commits) {
		whole(a.commits)[k] = api.Nat{87}
	}
	for k := range whole(a.places) {
		whole(a.places)[k] = 88
	}
	for k := range whole(a.l) {
		whole(a.l)[k] = api.Share{I: 89, V: api.Nat{90}}
	}
}

// numbers are all numbers of an answer.
func (z answer) numbers() []api.Nat {
	l := append(slices.Clone(z.commits), z.number)
	for _, one := range z.shares {
		l = append(l, one.V)
	}
	return l
}

// told is a copy of an answer.
func told(z answer) answer {
	c := answer{slices.Clone(z.shares), slices.Clone(z.commits), slices.Clone(z.number)}
	for k, one := range c.shares {
		c.shares[k].V = slices.Clone(one.V)
	}
	for k, n := range c.commits {
		c.commits[k] = slices.Clone(n)
	}
	return c
}

// spoil overwrites all that is in an answer.
func (z answer) spoil() {
	for _, n := range z.numbers() {
		overwrite(n)
	}
	for k := range whole(z.shares) {
		whole(z.shares)[k] = api.Share{I: 91, V: api.Nat{92}}
	}
	for k := range whole(z.commits) {
		whole(z.commits)[k] = api.Nat{93}
	}
}

// eachSharing goes through all calls with arguments that a call might hand on as they are, and others, wrong ones among them.
func eachSharing(t *testing.T, try func(c call, a *arguments)) {
	t.Helper()
	r := rand.New(rand.NewSource(250))
	for _, s := range settings(t) {
		for range 5 {
			// Of one coefficient, a value is that coefficient; of one commitment, Public is that commitment; of one share, Combine is its value.
			one := s.of(s.polynomial(r, 1), 3, 1, 9)
			zeros := s.of([]api.Nat{padded(s.scalar(r), 2), nil, {0}, padded(s.scalar(r), 1)}, 5, 1, 1, 2)
			zeros.commits[1], zeros.s.V, zeros.l[0].V = padded(api.Nat{1}, 3), padded(zeros.s.V, 1), padded(s.scalar(r), 2)
			wrong := s.right(r)
			wrong.n, wrong.commits[4], wrong.at, wrong.l[3].I = 256, fromBig(s.p), 77, 0
			long := s.right(r)
			long.poly[3], long.s.V, long.l[5].V = full(65), full(65), full(65)
			unproven := s.right(r)
			unproven.s.V = plus(unproven.s.V, 1)
			for _, c := range calls() {
				for _, z := range []*arguments{s.right(r), one, zeros, wrong, long, unproven} {
					try(c, z)
				}
			}
		}
	}
}

// P9.5, R2: arguments stay as they were, also when an answer is written to; and an answer is no part of the group.
func TestArgumentsStay(t *testing.T) {
	eachSharing(t, func(c call, a *arguments) {
		z := roomyAll(a)
		was := z.everything()
		got, err := c.run(z)
		before := told(got)
		got.spoil()
		if !slices.Equal(z.everything(), was) {
			t.Fatalf("%s: an argument has changed", c.name)
		}
		if again, errAgain := c.run(z); !sameAnswer(again, before) || err != errAgain {
			t.Fatalf("%s: %x, then %x; %v, then %v", c.name, before, again, err, errAgain)
		}
	})
}

// P9.5, R2: whoever writes to an argument later changes no answer, neither one given nor one to come.
func TestArgumentsAreNotKept(t *testing.T) {
	eachSharing(t, func(c call, a *arguments) {
		z := roomyAll(a)
		got, err := c.run(z)
		before := told(got)
		z.spoil()
		again, errAgain := c.run(roomyAll(a))
		if !sameAnswer(got, before) || !sameAnswer(again, before) || err != errAgain {
			t.Fatalf("%s: an argument is kept", c.name)
		}
	})
}

// R2: the numbers of an answer are apart, and told without zeros at their end.
func TestNumbersAreApart(t *testing.T) {
	eachSharing(t, func(c call, a *arguments) {
		got, _ := c.run(a)
		for k, n := range got.numbers() {
			if len(n) > 0 && n[len(n)-1] == 0 {
				t.Fatalf("%s: %x has zeros at its end", c.name, n)
			}
			before := told(got).numbers()
			overwrite(n)
			after := got.numbers()
			if !sameNumbers(after[:k], before[:k]) || !sameNumbers(after[k+1:], before[k+1:]) {
				t.Fatalf("%s: number %d shares its memory with another one", c.name, k)
			}
			copy(n, before[k])
		}
	})
}

// P9.5: one number in all places where it may stand, and one list in several arguments.
func TestOneNumberEverywhere(t *testing.T) {
	for _, s := range settings(t) {
		for _, number := range []api.Nat{{1}, {4}, {9, 0}, s.elements()[2]} {
			was := slices.Clone(number)
			l := slices.Repeat([]api.Nat{number}, 5)
			shares := []api.Share{{I: 5, V: number}, {I: 4, V: number}, {I: 255, V: number}}
			a := &arguments{s.x, l, 6, l, 5, shares[0], []int{7, 5}, 5, shares}
			for _, c := range calls() {
				got, err := c.run(a)
				want, errApart := c.run(roomyAll(a))
				if err != errApart || !sameAnswer(got, want) || !sameAnswer(got, s.want(c, a)) {
					t.Fatalf("%s of %x alone: %x, not %x; %v, %v", c.name, number, got, want, err, errApart)
				}
				got.spoil()
				if !slices.Equal(number, was) || !sameNumbers(l, slices.Repeat([]api.Nat{was}, 5)) {
					t.Fatalf("%s of %x alone: it has become %x", c.name, was, number)
				}
			}
		}
	}
}

// The layer keeps nothing from call to call: many callers at once get what one alone gets, all with the same arguments.
func TestManyAtOnce(t *testing.T) {
	r := rand.New(rand.NewSource(251))
	for _, s := range settings(t) {
		a := roomyAll(s.right(r))
		var all sync.WaitGroup
		for range 8 {
			all.Go(func() {
				for range 5 {
					for _, c := range calls() {
						if got, err := c.run(a); err != nil || !sameAnswer(got, s.want(c, a)) {
							t.Errorf("%s, many at once: %x, %v", c.name, got, err)
						}
					}
				}
			})
		}
		all.Wait()
	}
}
