package seal_test

import (
	"math/rand"
	"slices"
	"testing"

	"treenail/api"
)

// fault is one thing that is amiss in an argument, and the error that it calls for.
type fault struct {
	argument, name string
	want           api.Code
	spoil          func(a *arguments)
}

// rank is where the fault's error stands in the order of P10.1 and P10.2.
func (f fault) rank() int {
	return slices.Index([]api.Code{api.ErrArg, api.ErrLong, api.ErrGroup, api.ErrSeal}, f.want)
}

// argFaults are a group that is missing, and too many bytes.
func argFaults() []fault {
	more, many := make([]byte, most+1), make([]byte, 2*most)
	return []fault{
		{"x", "nil", api.ErrArg, func(a *arguments) { a.x = nil }},
		{"body", "of one more", api.ErrArg, func(a *arguments) { a.body = more }},
		{"body", "of twice as many", api.ErrArg, func(a *arguments) { a.body = many }},
		{"Body", "of one more", api.ErrArg, func(a *arguments) { a.l.Body = more }},
		{"Body", "of twice as many", api.ErrArg, func(a *arguments) { a.l.Body = many }},
	}
}

// longFaults are scalars that are too long.
func longFaults() []fault {
	var l []fault
	for _, long := range longScalars() {
		l = append(l,
			fault{"r", "long", api.ErrLong, func(a *arguments) { a.r = long }},
			fault{"secret", "long", api.ErrLong, func(a *arguments) { a.secret = long }},
		)
	}
	return l
}

// groupFaults are numbers that are no elements where elements are asked for.
func groupFaults(s *setting) []fault {
	var l []fault
	for _, other := range s.others() {
		l = append(l,
			fault{"key", "no element", api.ErrGroup, func(a *arguments) { a.key = other }},
			fault{"R", "no element", api.ErrGroup, func(a *arguments) { a.l.R = other }},
		)
	}
	return l
}

// sealFaults are letters whose Tag is another one.
func sealFaults() []fault {
	return []fault{
		{"Tag", "nil", api.ErrSeal, func(a *arguments) { a.l.Tag = nil }},
		{"Tag", "short", api.ErrSeal, func(a *arguments) { a.l.Tag = a.l.Tag[:len(a.l.Tag)-1] }},
		{"Tag", "long", api.ErrSeal, func(a *arguments) { a.l.Tag = append(a.l.Tag, 0) }},
		{"Tag", "turned", api.ErrSeal, func(a *arguments) { a.l.Tag[31] ^= 128 }},
		{"Body", "turned", api.ErrSeal, func(a *arguments) { a.l.Body[0] ^= 1 }},
		{"Body", "nil", api.ErrSeal, func(a *arguments) { a.l.Body = nil }},
		{"secret", "one more", api.ErrSeal, func(a *arguments) { a.secret = plus(a.secret, 1) }},
	}
}

// faults are all things that may be amiss.
func faults(s *setting) []fault {
	return slices.Concat(argFaults(), longFaults(), groupFaults(s), sealFaults())
}

// of are the faults of what a call takes.
func (c call) of(faults []fault) []fault {
	var l []fault
	for _, f := range faults {
		if slices.Contains(c.takes, f.argument) {
			l = append(l, f)
		}
	}
	return l
}

// wantError checks that an error is the code itself, and that there is nothing beside it.
func wantError(t *testing.T, got answer, err error, want api.Code, what string, with ...any) {
	t.Helper()
	if err != want || !got.isNothing() {
		t.Fatalf("%s %x is %x and error %v, not %v", what, with, got, err, want)
	}
}

// refused checks what a call answers where several things are amiss. They are laid on from the last in the order to the first, so that none takes away one that comes ahead of it.
func (c call) refused(t *testing.T, s *setting, want api.Code, faults ...fault) {
	t.Helper()
	a := s.right(rand.New(rand.NewSource(340)))
	name := c.name
	for _, f := range faults {
		f.spoil(a)
		name += ", " + f.argument + " " + f.name
	}
	got, err := c.run(a)
	wantError(t, got, err, want, name, s.p)
}

// P10.1, P10.2, P1: each thing that may be amiss, on its own: in its kind of error, as a plain code, and with nothing beside it.
func TestOneFault(t *testing.T) {
	for _, s := range settings(t) {
		for _, c := range calls() {
			a := s.right(rand.New(rand.NewSource(340)))
			if got, err := c.run(a); err != nil || !sameAnswer(got, s.want(c, a)) {
				t.Fatalf("%s with nothing amiss: %x, %v", c.name, got, err)
			}
			for _, f := range c.of(faults(s)) {
				c.refused(t, s, f.want, f)
			}
		}
	}
}

// P10.1, P10.2, R1: of two things that are amiss, the one that comes first in the order is told, wherever in the arguments the other one is.
func TestTwoFaults(t *testing.T) {
	for _, s := range []*setting{least(t), thirtyBits(t), fourLimbs(t)} {
		for _, c := range calls() {
			all := c.of(faults(s))
			for _, first := range all {
				for _, second := range all {
					if first.rank() < second.rank() {
						c.refused(t, s, first.want, second, first)
					}
				}
			}
		}
	}
}

// P10.1, P10.2, R1: something of each kind amiss at once.
func TestAllFaults(t *testing.T) {
	s := thirtyBits(t)
	for _, c := range calls() {
		tag := c.of(sealFaults()[:1])
		for _, none := range c.of(groupFaults(s)) {
			c.refused(t, s, api.ErrGroup, append(slices.Clone(tag), none)...)
			for _, long := range c.of(longFaults()) {
				c.refused(t, s, api.ErrLong, append(slices.Clone(tag), none, long)...)
				for _, arg := range c.of(argFaults()) {
					c.refused(t, s, api.ErrArg, append(slices.Clone(tag), none, long, arg)...)
				}
			}
		}
	}
}

// P10.1, P10.2, P1: calls without anything, in a group and in none: 0 is no element, and so neither a key nor an R.
func TestNothingAtAll(t *testing.T) {
	for _, s := range settings(t) {
		for _, c := range calls() {
			got, err := c.run(&arguments{})
			wantError(t, got, err, api.ErrArg, c.name+" of nothing, in no group")
			got, err = c.run(&arguments{x: s.x})
			wantError(t, got, err, api.ErrGroup, c.name+" of nothing", s.p)
			got, err = c.run(&arguments{x: s.x, key: api.Nat{1}, l: api.Letter{R: api.Nat{1}}})
			if c.name == "Open" {
				wantError(t, got, err, api.ErrSeal, "Open without a Tag", s.p)
			} else if want := s.close(api.Nat{1}, nil, nil); err != nil || !sameLetter(got.letter, want) {
				t.Fatalf("Close of no bytes to 1 by 0: %x, %v", got, err)
			}
		}
	}
}
