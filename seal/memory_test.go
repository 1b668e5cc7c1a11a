package seal_test

import (
	"math/rand"
	"slices"
	"sync"
	"testing"

	"treenail/api"
)

// roomy is a list with room behind it that holds something: what a call must not write to.
func roomy[E any](l []E, behind ...E) []E { return slices.Concat(l, behind)[:len(l)] }

// whole is a list with the room behind it.
func whole[E any](l []E) []E { return l[:cap(l)] }

// roomyNat is a number with room behind it.
func roomyNat(a api.Nat) api.Nat { return roomy(a, 77, 78, 79) }

// roomyBytes are bytes with room behind them, for more than a piece of the stream.
func roomyBytes(b []byte) []byte { return roomy(b, slices.Repeat([]byte("room"), 20)...) }

// roomyAll are arguments that share nothing with others, with room behind all that is in them.
func roomyAll(a *arguments) *arguments {
	return &arguments{
		a.x, roomyNat(a.key), roomyBytes(a.body), roomyNat(a.r), roomyNat(a.secret),
		api.Letter{R: roomyNat(a.l.R), Body: roomyBytes(a.l.Body), Tag: roomyBytes(a.l.Tag)},
	}
}

// numbers are all numbers of arguments.
func (a *arguments) numbers() []api.Nat { return []api.Nat{a.key, a.r, a.secret, a.l.R} }

// strings are all bytes of arguments.
func (a *arguments) strings() [][]byte { return [][]byte{a.body, a.l.Body, a.l.Tag} }

// everything is all that is in arguments, lengths and room included, in one list.
func (a *arguments) everything() api.Nat {
	var z api.Nat
	for _, b := range a.strings() {
		z = append(z, uint64(len(b)))
		for _, one := range whole(b) {
			z = append(z, uint64(one))
		}
	}
	for _, n := range a.numbers() {
		z = append(append(z, uint64(len(n))), whole(n)...)
	}
	return z
}

// overwrite spoils numbers and bytes, and the room behind them.
func overwrite(numbers []api.Nat, strings [][]byte) {
	for _, n := range numbers {
		for k := range whole(n) {
			whole(n)[k] = 0x5d5d
		}
	}
	for _, b := range strings {
		for k := range whole(b) {
			whole(b)[k] ^= 0x5d
		}
	}
}

// spoil overwrites all that is in arguments.
func (a *arguments) spoil() { overwrite(a.numbers(), a.strings()) }

// spoil overwrites all that is in an answer.
func (z answer) spoil() {
	overwrite([]api.Nat{z.letter.R}, [][]byte{z.letter.Body, z.letter.Tag, z.body})
}

// told is a copy of an answer.
func told(z answer) answer { return answer{copied(z.letter), slices.Clone(z.body)} }

// eachSharing goes through both calls with arguments that a call might hand on as they are, and others, wrong ones among them.
func eachSharing(t *testing.T, try func(c call, a *arguments)) {
	t.Helper()
	r := rand.New(rand.NewSource(350))
	for _, s := range settings(t) {
		for range 10 {
			zeros := s.of(padded(s.scalar(r), 2), make([]byte, 64), padded(s.scalar(r), 1))
			zeros.key, zeros.l.R = padded(zeros.key, 3), padded(zeros.l.R, 1)
			// Here R is G, and K is the key; or both are 1.
			ofOne := s.of(api.Nat{1}, someBytes(r, 33), api.Nat{1})
			ofNone := s.of(s.scalar(r), nil, nil)
			empty := s.of(s.scalar(r), []byte{}, s.scalar(r))
			wrong := s.right(r)
			wrong.key, wrong.l.R = fromBig(s.p), api.Nat{0, 0}
			long := s.right(r)
			long.r, long.secret = full(65), full(65)
			untagged := s.right(r)
			untagged.l.Tag[5] ^= 1
			for _, c := range calls() {
				for _, z := range []*arguments{s.right(r), zeros, ofOne, ofNone, empty, wrong, long, untagged} {
					try(c, z)
				}
			}
		}
	}
}

// P10.3, R2: arguments stay as they were, also when an answer is written to; and an answer is no part of the group.
func TestArgumentsStay(t *testing.T) {
	eachSharing(t, func(c call, a *arguments) {
		z := roomyAll(a)
		was := z.everything()
		got, err := c.run(z)
		before := told(got)
		got.spoil()
		if !slices.Equal(z.everything(), was) {
			t.Fatalf("%s: an argument has changed", c.name)
		}
		if again, errAgain := c.run(z); !sameAnswer(again, before) || err != errAgain {
			t.Fatalf("%s: %x, then %x; %v, then %v", c.name, before, again, err, errAgain)
		}
	})
}

// P10.3, R2: whoever writes to an argument later changes no answer, neither one given nor one to come.
func TestArgumentsAreNotKept(t *testing.T) {
	eachSharing(t, func(c call, a *arguments) {
		z := roomyAll(a)
		got, err := c.run(z)
		before := told(got)
		z.spoil()
		again, errAgain := c.run(roomyAll(a))
		if !sameAnswer(got, before) || !sameAnswer(again, before) || err != errAgain {
			t.Fatalf("%s: an argument is kept", c.name)
		}
	})
}

// R2: what is in a letter is apart, the room behind it included, and R is told without zeros at its end.
func TestAnswersAreApart(t *testing.T) {
	eachSharing(t, func(c call, a *arguments) {
		got, err := c.run(a)
		before := told(got)
		l := got.letter
		if n := len(l.R); n > 0 && l.R[n-1] == 0 {
			t.Fatalf("%s: %x has zeros at its end", c.name, l.R)
		}
		overwrite(nil, [][]byte{l.Body})
		if !slices.Equal(l.Tag, before.letter.Tag) {
			t.Fatalf("%s: Tag shares its memory with Body", c.name)
		}
		copy(l.Body, before.letter.Body)
		overwrite([]api.Nat{l.R}, [][]byte{l.Tag})
		if !slices.Equal(l.Body, before.letter.Body) {
			t.Fatalf("%s: Body shares its memory with Tag", c.name)
		}
		second, errSecond := c.run(a)
		got.spoil()
		if !sameAnswer(second, before) || err != errSecond {
			t.Fatalf("%s: two answers share their memory", c.name)
		}
	})
}

// P10.3: one number in all places where it may stand, and one list of bytes in several.
func TestOneNumberEverywhere(t *testing.T) {
	for _, s := range settings(t) {
		for _, number := range []api.Nat{{1}, {4}, {9, 0}, s.elements()[2]} {
			was := slices.Clone(number)
			// No bytes here are their own tag, so Open rejects them.
			body := []byte("thirty-two bytes, just as a tag.")
			a := &arguments{s.x, number, body, number, number, api.Letter{R: number, Body: body, Tag: body}}
			for _, c := range calls() {
				got, err := c.run(a)
				want, errApart := c.run(roomyAll(a))
				if err != errApart || !sameAnswer(got, want) || c.name == "Open" && err != api.ErrSeal {
					t.Fatalf("%s of %x alone: %x, not %x; %v, %v", c.name, number, got, want, err, errApart)
				}
				got.spoil()
				if !slices.Equal(number, was) || string(body) != "thirty-two bytes, just as a tag." {
					t.Fatalf("%s of %x alone: it has become %x, %s", c.name, was, number, body)
				}
			}
			l := s.sealed(number, number, body)
			if !s.checkOpen(t, number, l) || !slices.Equal(number, was) {
				t.Fatalf("a letter of R and secret %x doesn't open", was)
			}
		}
	}
}

// The layer keeps nothing from call to call: many callers at once get what one alone gets, all with the same arguments.
func TestManyAtOnce(t *testing.T) {
	r := rand.New(rand.NewSource(351))
	for _, s := range settings(t) {
		a := roomyAll(s.right(r))
		var all sync.WaitGroup
		for range 8 {
			all.Go(func() {
				for range 5 {
					for _, c := range calls() {
						if got, err := c.run(a); err != nil || !sameAnswer(got, s.want(c, a)) {
							t.Errorf("%s, many at once: %x, %v", c.name, got, err)
						}
					}
				}
			})
		}
		all.Wait()
	}
}
