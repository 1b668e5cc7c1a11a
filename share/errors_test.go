package share_test

import (
	"math/rand"
	"slices"
	"testing"

	"treenail/api"
)

// fault is one thing that is amiss in an argument, and the error that it calls for.
type fault struct {
	argument, name string
	want           api.Code
	spoil          func(a *arguments)
}

// rank is where the fault's error stands in the order of P9.1, and of what follows it.
func (f fault) rank() int {
	return slices.Index([]api.Code{api.ErrArg, api.ErrLong, api.ErrGroup, api.ErrProof}, f.want)
}

// argFaults are a group that is missing, and numbers of things and indices that may not be.
func argFaults() []fault {
	l := []fault{
		{"x", "nil", api.ErrArg, func(a *arguments) { a.x = nil }},
		{"poly", "empty", api.ErrArg, func(a *arguments) { a.poly = nil }},
		{"poly", "of 33", api.ErrArg, func(a *arguments) { a.poly = lengthened(a.poly, 33) }},
		{"commits", "empty", api.ErrArg, func(a *arguments) { a.commits = []api.Nat{} }},
		{"commits", "of 33", api.ErrArg, func(a *arguments) { a.commits = lengthened(a.commits, 33) }},
		{"places", "empty", api.ErrArg, func(a *arguments) { a.places = nil }},
		{"places", "of 256", api.ErrArg, func(a *arguments) { a.places = lengthened(a.places, 256) }},
		{"at", "absent", api.ErrArg, func(a *arguments) { a.at = 77 }},
		{"l", "empty", api.ErrArg, func(a *arguments) { a.l = nil }},
		{"l", "of 256", api.ErrArg, func(a *arguments) { a.l = lengthened(a.l, 256) }},
	}
	for _, at := range []int{1, 5} {
		l = append(l,
			fault{"places", "two equal", api.ErrArg, func(a *arguments) { a.places[at] = a.places[0] }},
			fault{"l", "two equal", api.ErrArg, func(a *arguments) { a.l[at].I = a.l[0].I }},
		)
	}
	return append(l, indexFaults()...)
}

// indexFaults are indices that are none.
func indexFaults() []fault {
	var l []fault
	for _, i := range wrongIndices() {
		l = append(l,
			fault{"n", "no index", api.ErrArg, func(a *arguments) { a.n = i }},
			fault{"i", "no index", api.ErrArg, func(a *arguments) { a.i = i }},
			fault{"s", "no index", api.ErrArg, func(a *arguments) { a.s.I = i }},
			fault{"at", "no index", api.ErrArg, func(a *arguments) { a.at = i }},
			fault{"places", "no index", api.ErrArg, func(a *arguments) { a.places[len(a.places)-1] = i }},
			fault{"l", "no index", api.ErrArg, func(a *arguments) { a.l[len(a.l)-1].I = i }},
		)
	}
	return l
}

// lengthened is a list of n elements that begins with another one and goes on with its first element.
func lengthened[E any](l []E, n int) []E {
	return slices.Concat(l, slices.Repeat(l[:1], n-len(l)))
}

// longFaults are scalars that are too long, at the beginning of lists and at their end.
func longFaults() []fault {
	var l []fault
	for _, long := range longScalars() {
		l = append(l,
			fault{"poly", "long", api.ErrLong, func(a *arguments) { a.poly[0] = long }},
			fault{"poly", "long", api.ErrLong, func(a *arguments) { a.poly[4] = long }},
			fault{"s", "long", api.ErrLong, func(a *arguments) { a.s.V = long }},
			fault{"l", "long", api.ErrLong, func(a *arguments) { a.l[0].V = long }},
			fault{"l", "long", api.ErrLong, func(a *arguments) { a.l[5].V = long }},
		)
	}
	return l
}

// groupFaults are commitments that are no elements, at the beginning and at the end.
func groupFaults(s *setting) []fault {
	var l []fault
	for _, other := range s.others() {
		l = append(l,
			fault{"commits", "no element", api.ErrGroup, func(a *arguments) { a.commits[0] = other }},
			fault{"commits", "no element", api.ErrGroup, func(a *arguments) { a.commits[2] = other }},
			fault{"commits", "no element", api.ErrGroup, func(a *arguments) { a.commits[4] = other }},
		)
	}
	return l
}

// proofFault is a value that is one more.
func proofFault() fault {
	return fault{"s", "one more", api.ErrProof, func(a *arguments) { a.s.V = plus(a.s.V, 1) }}
}

// faults are all things that may be amiss.
func faults(s *setting) []fault {
	return slices.Concat(argFaults(), longFaults(), groupFaults(s), []fault{proofFault()})
}

// of are the faults of what a call takes.
func (c call) of(faults []fault) []fault {
	var l []fault
	for _, f := range faults {
		if slices.Contains(c.takes, f.argument) {
			l = append(l, f)
		}
	}
	return l
}

// wantError checks that an error is the code itself, and that there is nothing beside it.
func wantError(t *testing.T, got answer, err error, want api.Code, what string, with ...any) {
	t.Helper()
	if err != want || !got.isNothing() {
		t.Fatalf("%s %x is %x and error %v, not %v", what, with, got, err, want)
	}
}

// refused checks what a call answers where several things are amiss. They are laid on from the last in the order to the first, so that none takes away one that comes ahead of it.
func (c call) refused(t *testing.T, s *setting, want api.Code, faults ...fault) {
	t.Helper()
	a := s.right(rand.New(rand.NewSource(240)))
	name := c.name
	for _, f := range faults {
		f.spoil(a)
		name += ", " + f.argument + " " + f.name
	}
	got, err := c.run(a)
	wantError(t, got, err, want, name, s.p)
}

// P9.1 to P9.4, P1: each thing that may be amiss, on its own: in its kind of error, as a plain code, and with nothing beside it.
func TestOneFault(t *testing.T) {
	for _, s := range settings(t) {
		for _, c := range calls() {
			a := s.right(rand.New(rand.NewSource(240)))
			if got, err := c.run(a); err != nil || !sameAnswer(got, s.want(c, a)) {
				t.Fatalf("%s with nothing amiss: %x, %v", c.name, got, err)
			}
			for _, f := range c.of(faults(s)) {
				c.refused(t, s, f.want, f)
			}
		}
	}
}

// P9.1, R1: of two things that are amiss, the one that comes first in the order is told, wherever in the arguments the other one is.
func TestTwoFaults(t *testing.T) {
	s := thirtyBits(t)
	for _, c := range calls() {
		all := c.of(faults(s))
		for _, first := range all {
			for _, second := range all {
				if first.rank() < second.rank() {
					c.refused(t, s, first.want, second, first)
				}
			}
		}
	}
}

// P9.1, R1: something of each kind amiss at once.
func TestAllFaults(t *testing.T) {
	s := thirtyBits(t)
	for _, c := range calls() {
		last := c.of([]fault{proofFault()})
		for _, none := range c.of(groupFaults(s)) {
			c.refused(t, s, api.ErrGroup, append(slices.Clone(last), none)...)
			for _, long := range c.of(longFaults()) {
				c.refused(t, s, api.ErrLong, append(slices.Clone(last), none, long)...)
				c.refused(t, s, api.ErrLong, append(slices.Clone(last), long, none)...)
				for _, arg := range c.of(argFaults()) {
					c.refused(t, s, api.ErrArg, append(slices.Clone(last), none, long, arg)...)
				}
			}
		}
	}
}

// P9.1, P1: calls without anything, in a group and in none.
func TestNothingAtAll(t *testing.T) {
	for _, s := range settings(t) {
		for _, c := range calls() {
			got, err := c.run(&arguments{})
			wantError(t, got, err, api.ErrArg, c.name+" of nothing, in no group")
			got, err = c.run(&arguments{x: s.x})
			wantError(t, got, err, api.ErrArg, c.name+" of nothing", s.p)
			a := s.right(rand.New(rand.NewSource(241)))
			a.x = nil
			got, err = c.run(a)
			wantError(t, got, err, api.ErrArg, c.name+" in no group")
		}
	}
}
