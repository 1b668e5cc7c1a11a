package mix_test

import (
	"math/rand"
	"slices"
	"sync"
	"testing"

	"treenail/api"
	"treenail/mix"
)

// roomy is a list with room behind it that holds something: what a call must not write to.
func roomy[E any](l []E, behind ...E) []E { return slices.Concat(l, behind)[:len(l)] }

// whole is a list with the room behind it.
func whole[E any](l []E) []E { return l[:cap(l)] }

// roomyNat is a number with room behind it.
func roomyNat(a api.Nat) api.Nat { return roomy(a, 77, 78, 79) }

// roomyNats is a list of numbers with room behind it, and behind each of them.
func roomyNats(l []api.Nat) []api.Nat {
	z := make([]api.Nat, len(l))
	for i, a := range l {
		z[i] = roomyNat(a)
	}
	return roomy(z, api.Nat{5}, api.Nat{6})
}

// roomyLetter is a letter with room behind it, and behind each of its numbers.
func roomyLetter(l []api.Pair) []api.Pair {
	z := make([]api.Pair, len(l))
	for i, p := range l {
		z[i] = api.Pair{A: roomyNat(p.A), B: roomyNat(p.B), C: roomyNat(p.C)}
	}
	return roomy(z, pairOf(5, 6, 7))
}

// roomyAll are arguments that share nothing with others, with room behind all that is in them.
func roomyAll(a *arguments) *arguments {
	z := &arguments{
		x: a.x, key: roomyNat(a.key), secret: roomyNat(a.secret),
		m: roomyNats(a.m), r: roomyNats(a.r), l: roomyLetter(a.l), perm: roomy(a.perm, 0, 1),
	}
	for i := range a.b {
		z.b, z.lists = append(z.b, roomyLetter(a.b[i])), append(z.lists, roomyNats(a.lists[i]))
	}
	z.b, z.lists = roomy(z.b, roomyLetter(a.l)), roomy(z.lists, roomyNats(a.r))
	return z
}

// eachNat goes through all numbers of arguments, with those in the room behind lists.
func (a *arguments) eachNat(do func(*api.Nat)) {
	lists := append(slices.Clone(whole(a.lists)), a.m, a.r)
	letters := append(slices.Clone(whole(a.b)), a.l)
	do(&a.key)
	do(&a.secret)
	for _, l := range lists {
		for i := range whole(l) {
			do(&whole(l)[i])
		}
	}
	for _, l := range letters {
		for i := range whole(l) {
			for _, z := range numbersOf(&whole(l)[i]) {
				do(z)
			}
		}
	}
}

// everything is all that is in arguments, lengths and room included, in one list.
func (a *arguments) everything() api.Nat {
	var z api.Nat
	a.eachNat(func(n *api.Nat) { z = append(append(z, uint64(len(*n))), whole(*n)...) })
	for _, i := range whole(a.perm) {
		z = append(z, uint64(i))
	}
	for _, l := range whole(a.b) {
		z = append(z, uint64(len(l)))
	}
	for _, l := range whole(a.lists) {
		z = append(z, uint64(len(l)))
	}
	return append(z, uint64(len(a.m)), uint64(len(a.r)), uint64(len(a.l)), uint64(len(a.b)), uint64(len(a.perm)), uint64(len(a.lists)))
}

// overwrite spoils a number and the room behind it.
func overwrite(a api.Nat) {
	for i := range whole(a) {
		whole(a)[i] = 0x5d5d
	}
}

// spoil overwrites all that is in arguments.
func (a *arguments) spoil() {
	a.eachNat(func(n *api.Nat) { overwrite(*n) })
	for _, l := range append(slices.Clone(whole(a.b)), a.l) {
		clear(whole(l))
	}
	for _, l := range append(slices.Clone(whole(a.lists)), a.m, a.r) {
		clear(whole(l))
	}
	clear(whole(a.b))
	clear(whole(a.lists))
	for i := range whole(a.perm) {
		whole(a.perm)[i] = -5
	}
}

// told are copies of numbers.
func told(l []api.Nat) []api.Nat {
	z := make([]api.Nat, len(l))
	for i, a := range l {
		z[i] = slices.Clone(a)
	}
	return z
}

// eachSharing goes through all calls with arguments that a call might hand on as they are, and others, wrong ones among them.
func eachSharing(t *testing.T, try func(c call, a *arguments)) {
	t.Helper()
	r := rand.New(rand.NewSource(100))
	for _, s := range settings(t) {
		for range 10 {
			a := s.right(r)
			nothing := s.right(r)
			nothing.eachNat(func(n *api.Nat) { *n = api.Nat{1} })
			sames := s.right(r)
			sames.r, sames.lists, sames.secret = make([]api.Nat, 3), several(4, func() []api.Nat { return []api.Nat{{0}, {0}} }), nil
			wrong := s.right(r)
			wrong.key = api.Nat{0, 0}
			long := s.right(r)
			long.r[1], long.lists[2][0] = full(65), full(65)
			for _, c := range calls() {
				for _, z := range []*arguments{a, nothing, sames, wrong, long} {
					try(c, z)
				}
			}
		}
	}
}

// P7.7, R2: arguments stay as they were, also when an answer is written to; and an answer is no part of the group.
func TestArgumentsStay(t *testing.T) {
	eachSharing(t, func(c call, a *arguments) {
		z := roomyAll(a)
		was := z.everything()
		got, err := c.run(z)
		before := told(got)
		for _, n := range got {
			overwrite(n)
		}
		if !slices.Equal(z.everything(), was) {
			t.Fatalf("%s: an argument has changed", c.name)
		}
		if again, errAgain := c.run(z); !sameNumbers(again, before) || err != errAgain {
			t.Fatalf("%s: %x, then %x; %v, then %v", c.name, before, again, err, errAgain)
		}
	})
}

// P7.7, R2: whoever writes to an argument later changes no answer, neither one given nor one to come.
func TestArgumentsAreNotKept(t *testing.T) {
	eachSharing(t, func(c call, a *arguments) {
		z := roomyAll(a)
		got, _ := c.run(z)
		before := told(got)
		z.spoil()
		again, _ := c.run(roomyAll(a))
		if !sameNumbers(got, before) || !sameNumbers(again, before) {
			t.Fatalf("%s: an argument is kept", c.name)
		}
	})
}

// R2: no number of an answer is another one's memory, and none has zeros at its end.
func TestNumbersAreApart(t *testing.T) {
	eachSharing(t, func(c call, a *arguments) {
		got, _ := c.run(a)
		before := told(got)
		for i, n := range got {
			if len(n) == 0 || n[len(n)-1] == 0 {
				t.Fatalf("%s: number %d is %x", c.name, i, n)
			}
			overwrite(n)
			if !sameNumbers(got[i+1:], before[i+1:]) {
				t.Fatalf("%s: number %d shares its memory", c.name, i)
			}
		}
	})
}

// R2: the letters of a batch are lists of their own.
func TestLettersAreApart(t *testing.T) {
	r := rand.New(rand.NewSource(101))
	for _, s := range settings(t) {
		a := s.right(r)
		got, err := mix.Mix(s.x, a.key, a.b, a.perm, a.lists)
		if err != nil {
			t.Fatal(err)
		}
		want := s.mix(a.key, a.b, a.perm, a.lists)
		for i := range got {
			clear(whole(got[i]))
			if !sameBatch(got[i+1:], want[i+1:]) {
				t.Fatalf("letter %d shares its memory", i)
			}
		}
	}
}

// P7.7: one list in all places where it may stand.
func TestOneListEverywhere(t *testing.T) {
	for _, s := range settings(t) {
		for _, number := range []api.Nat{{1}, {4}, {9, 0}, s.elements()[2]} {
			was := slices.Clone(number)
			l := []api.Nat{number, number, number}
			letter := []api.Pair{{A: number, B: number, C: number}, {A: number, B: number, C: number}, {A: number, B: number, C: number}}
			a := &arguments{s.x, number, number, l, l, letter, [][]api.Pair{letter, letter}, []int{1, 0}, [][]api.Nat{l, l}}
			for _, c := range calls() {
				got, err := c.run(a)
				apart := told(got)
				want, errApart := c.run(roomyAll(a))
				if err != nil || errApart != nil || !sameNumbers(got, want) {
					t.Fatalf("%s of %x alone: %x, not %x; %v, %v", c.name, number, got, want, err, errApart)
				}
				for i := range got {
					overwrite(got[i])
					if !sameNumbers(got[i+1:], apart[i+1:]) {
						t.Fatalf("%s of %x alone: number %d shares its memory", c.name, number, i)
					}
				}
				if !slices.Equal(number, was) {
					t.Fatalf("%s of %x alone: it has become %x", c.name, was, number)
				}
			}
		}
	}
}

// The layer keeps nothing from call to call: many callers at once get what one alone gets, all with the same arguments.
func TestManyAtOnce(t *testing.T) {
	r := rand.New(rand.NewSource(102))
	for _, s := range settings(t) {
		a := roomyAll(s.right(r))
		var want [][]api.Nat
		for _, c := range calls() {
			got, err := c.run(a)
			if err != nil {
				t.Fatal(err)
			}
			want = append(want, got)
		}
		var all sync.WaitGroup
		for range 8 {
			all.Go(func() {
				for range 5 {
					for i, c := range calls() {
						if got, err := c.run(a); err != nil || !sameNumbers(got, want[i]) {
							t.Errorf("%s, many at once: %x, %v", c.name, got, err)
						}
					}
				}
			})
		}
		all.Wait()
	}
}
