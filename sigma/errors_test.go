package sigma_test

import (
	"math/big"
	"math/rand"
	"slices"
	"testing"

	"treenail/api"
)

// fault is one thing that is amiss in an argument, and the error that it calls for.
type fault struct {
	argument, name string
	want           api.Code
	spoil          func(a *arguments)
}

// rank is where the fault's error stands in the order of P8.1, and of what follows it.
func (f fault) rank() int {
	return slices.Index([]api.Code{api.ErrArg, api.ErrLong, api.ErrGroup, api.ErrProof}, f.want)
}

// noGroup is the fault of a group that is missing.
func noGroup() fault { return fault{"x", "nil", api.ErrArg, func(a *arguments) { a.x = nil }} }

// longFaults are scalars that are too long.
func longFaults() []fault {
	var l []fault
	for _, long := range longScalars() {
		l = append(l,
			fault{"s", "long", api.ErrLong, func(a *arguments) { a.s = long }},
			fault{"k", "long", api.ErrLong, func(a *arguments) { a.k = long }},
			fault{"E", "long", api.ErrLong, func(a *arguments) { a.eachProof(func(p *api.Proof) { p.E = long }) }},
			fault{"Z", "long", api.ErrLong, func(a *arguments) { a.eachProof(func(p *api.Proof) { p.Z = long }) }},
		)
	}
	return l
}

// groupFaults are numbers that are no elements where elements are asked for.
func groupFaults(s *setting) []fault {
	var l []fault
	for _, other := range s.others() {
		l = append(l,
			fault{"y", "no element", api.ErrGroup, func(a *arguments) { a.y = other }},
			fault{"a", "no element", api.ErrGroup, func(a *arguments) { a.a = other }},
			fault{"d", "no element", api.ErrGroup, func(a *arguments) { a.d = other }},
		)
	}
	return l
}

// proofFaults are Es that are the challenge and Qs more, which are wrong in every group, be it ever so small.
func proofFaults(s *setting) []fault {
	var l []fault
	for i := range s.withQs(nil) {
		l = append(l, fault{"E", "Qs more", api.ErrProof, func(a *arguments) {
			a.eachProof(func(p *api.Proof) { p.E = s.withQs(p.E)[i] })
		}})
	}
	return l
}

// of are the faults of what a call takes.
func (c call) of(faults []fault) []fault {
	var l []fault
	for _, f := range faults {
		if slices.Contains(c.takes, f.argument) {
			l = append(l, f)
		}
	}
	return l
}

// wantError checks that an error is the code itself, and that there is no proof beside it.
func wantError(t *testing.T, got api.Proof, err error, want api.Code, what string, with ...any) {
	t.Helper()
	if err != want || got.E != nil || got.Z != nil {
		t.Fatalf("%s %x is %x and error %v, not %v", what, with, got, err, want)
	}
}

// refused checks what a call answers where several things are amiss. They are laid on from the last in the order to the first, so that none takes away one that comes ahead of it.
func (c call) refused(t *testing.T, s *setting, want api.Code, faults ...fault) {
	t.Helper()
	a := s.right(rand.New(rand.NewSource(140)))
	name := c.name
	for _, f := range faults {
		f.spoil(a)
		name += ", " + f.argument + " " + f.name
	}
	got, err := c.run(a)
	wantError(t, got, err, want, name, s.p)
}

// P8.1, P8.2, P8.3, P1: each thing that may be amiss, on its own: in its kind of error, as a plain code, and with nothing beside it.
func TestOneFault(t *testing.T) {
	for _, s := range settings(t) {
		for _, c := range calls() {
			if got, err := c.run(s.right(rand.New(rand.NewSource(140)))); err != nil || c.makes() == (got.E == nil) {
				t.Fatalf("%s with nothing amiss: %x, %v", c.name, got, err)
			}
			for _, f := range c.of(slices.Concat([]fault{noGroup()}, longFaults(), groupFaults(s), proofFaults(s))) {
				c.refused(t, s, f.want, f)
			}
		}
	}
}

// P8.1, R1: of two things that are amiss, the one that comes first in the order is told, wherever in the arguments the other one is.
func TestTwoFaults(t *testing.T) {
	s := thirtyBits(t)
	for _, c := range calls() {
		all := c.of(slices.Concat([]fault{noGroup()}, longFaults(), groupFaults(s), proofFaults(s)))
		for _, first := range all {
			for _, second := range all {
				if first.rank() < second.rank() {
					c.refused(t, s, first.want, second, first)
				}
			}
		}
	}
}

// P8.1, R1: something of each kind amiss at once.
func TestAllFaults(t *testing.T) {
	s := thirtyBits(t)
	for _, c := range calls() {
		proof := c.of(proofFaults(s))
		for _, long := range c.of(longFaults()) {
			c.refused(t, s, api.ErrArg, append(slices.Clone(proof), long, noGroup())...)
			for _, none := range c.of(groupFaults(s)) {
				c.refused(t, s, api.ErrLong, append(slices.Clone(proof), none, long)...)
				c.refused(t, s, api.ErrArg, append(slices.Clone(proof), none, long, noGroup())...)
			}
		}
		for _, none := range c.of(groupFaults(s)) {
			c.refused(t, s, api.ErrGroup, append(slices.Clone(proof), none)...)
		}
	}
}

// P8.1: all elements are asked whether they are, also where the scalars would make 1 of them, or nothing would hang on them.
func TestElementsAreAskedFor(t *testing.T) {
	for _, s := range settings(t) {
		for _, zero := range []api.Nat{nil, {0}, fromBig(s.q), fromBig(new(big.Int).Lsh(s.q, 1))} {
			for _, c := range calls() {
				for _, f := range c.of(groupFaults(s)) {
					a := s.of(nil, nil, nil, api.Nat{1})
					a.s, a.k = zero, zero
					a.eachProof(func(p *api.Proof) { *p = api.Proof{E: zero, Z: zero} })
					f.spoil(a)
					got, err := c.run(a)
					wantError(t, got, err, api.ErrGroup, c.name+" of "+f.argument, s.p, zero)
				}
			}
		}
	}
}

// P8.1, P1: calls without anything, in a group and in none.
func TestNothingAtAll(t *testing.T) {
	for _, s := range settings(t) {
		for _, c := range calls() {
			got, err := c.run(&arguments{})
			wantError(t, got, err, api.ErrArg, c.name+" of nothing, in no group")
			if len(c.of(groupFaults(s))) > 0 {
				got, err = c.run(&arguments{x: s.x})
				wantError(t, got, err, api.ErrGroup, c.name+" of nothing", s.p)
			} else if got, err = c.run(&arguments{x: s.x}); err != nil {
				t.Fatalf("%s of nothing modulo %x: %x, %v", c.name, s.p, got, err)
			}
		}
	}
}
