package mix_test

import (
	"math/rand"
	"slices"
	"testing"

	"treenail/api"
)

// fault is one thing that is amiss in an argument, and the error that it calls for.
type fault struct {
	argument, name string
	want           api.Code
	spoil          func(a *arguments)
}

// rank is where the fault's error stands in the order of P7.1.
func (f fault) rank() int {
	return slices.Index([]api.Code{api.ErrArg, api.ErrLong, api.ErrGroup}, f.want)
}

// shapeFaults are arguments without the shape that is asked for, the missing group among them.
func shapeFaults() []fault {
	return []fault{
		{"x", "nil", api.ErrArg, func(a *arguments) { a.x = nil }},
		{"m", "none", api.ErrArg, func(a *arguments) { a.m, a.r = nil, nil }},
		{"m", "33", api.ErrArg, func(a *arguments) { a.m, a.r = slices.Repeat(a.m, 11), slices.Repeat(a.r, 11) }},
		{"m", "one less", api.ErrArg, func(a *arguments) { a.m = a.m[1:] }},
		{"m", "one more", api.ErrArg, func(a *arguments) { a.m = append(slices.Clip(a.m), a.m[0]) }},
		{"l", "none", api.ErrArg, func(a *arguments) { a.l, a.r = nil, nil }},
		{"l", "33", api.ErrArg, func(a *arguments) { a.l, a.r = slices.Repeat(a.l, 11), slices.Repeat(a.r, 11) }},
		{"r", "none", api.ErrArg, func(a *arguments) { a.r = nil }},
		{"r", "one less", api.ErrArg, func(a *arguments) { a.r = a.r[1:] }},
		{"r", "one more", api.ErrArg, func(a *arguments) { a.r = append(slices.Clip(a.r), a.r[0]) }},
		{"r", "33", api.ErrArg, func(a *arguments) { a.r = slices.Repeat(a.r, 11) }},
		{"b", "none", api.ErrArg, func(a *arguments) { a.b = nil }},
		{"b", "one less", api.ErrArg, func(a *arguments) { a.b = a.b[1:] }},
		{"b", "one more", api.ErrArg, func(a *arguments) { a.b = append(slices.Clip(a.b), a.b[0]) }},
		{"b", "letters without pairs", api.ErrArg, func(a *arguments) { clear(a.b); clear(a.lists) }},
		{"b", "a letter with a pair less", api.ErrArg, func(a *arguments) { a.b[3] = a.b[3][1:]; a.lists[3] = a.lists[3][1:] }},
		{"perm", "none", api.ErrArg, func(a *arguments) { a.perm = nil }},
		{"perm", "one less", api.ErrArg, func(a *arguments) { a.perm = a.perm[1:] }},
		{"perm", "one more", api.ErrArg, func(a *arguments) { a.perm = append(slices.Clip(a.perm), 4) }},
		{"perm", "one twice", api.ErrArg, func(a *arguments) { a.perm[0] = a.perm[3] }},
		{"perm", "below 0", api.ErrArg, func(a *arguments) { a.perm[2] = -1 }},
		{"perm", "too great", api.ErrArg, func(a *arguments) { a.perm[1] = 4 }},
		{"lists", "none", api.ErrArg, func(a *arguments) { a.lists = nil }},
		{"lists", "one less", api.ErrArg, func(a *arguments) { a.lists = a.lists[1:] }},
		{"lists", "one more", api.ErrArg, func(a *arguments) { a.lists = append(slices.Clip(a.lists), a.lists[0]) }},
		{"lists", "a scalar less", api.ErrArg, func(a *arguments) { a.lists[3] = a.lists[3][1:] }},
		{"lists", "a scalar more", api.ErrArg, func(a *arguments) { a.lists[0] = append(slices.Clip(a.lists[0]), nil) }},
	}
}

// longFaults are scalars that are too long.
func longFaults() []fault {
	var l []fault
	for _, long := range longScalars() {
		l = append(l,
			fault{"secret", "long", api.ErrLong, func(a *arguments) { a.secret = long }},
			fault{"r", "the first long", api.ErrLong, func(a *arguments) { a.r[0] = long }},
			fault{"r", "the last long", api.ErrLong, func(a *arguments) { a.r[2] = long }},
			fault{"lists", "the first long", api.ErrLong, func(a *arguments) { a.lists[0][0] = long }},
			fault{"lists", "the last long", api.ErrLong, func(a *arguments) { a.lists[3][1] = long }},
		)
	}
	return l
}

// groupFaults are numbers that are no elements where elements are asked for.
func groupFaults(s *setting) []fault {
	var l []fault
	for _, other := range s.others() {
		l = append(l,
			fault{"key", "no element", api.ErrGroup, func(a *arguments) { a.key = other }},
			fault{"m", "the first no element", api.ErrGroup, func(a *arguments) { a.m[0] = other }},
			fault{"m", "the last no element", api.ErrGroup, func(a *arguments) { a.m[2] = other }},
		)
		for place, name := range []string{"A", "B", "C"} {
			l = append(l,
				fault{"l", name + " of the first no element", api.ErrGroup, func(a *arguments) { *numbersOf(&a.l[0])[place] = other }},
				fault{"l", name + " of the last no element", api.ErrGroup, func(a *arguments) { *numbersOf(&a.l[2])[place] = other }},
				fault{"b", name + " of the first no element", api.ErrGroup, func(a *arguments) { *numbersOf(&a.b[0][0])[place] = other }},
				fault{"b", name + " of the last no element", api.ErrGroup, func(a *arguments) { *numbersOf(&a.b[3][1])[place] = other }},
			)
		}
	}
	return l
}

// of are the faults of what a call takes.
func (c call) of(faults []fault) []fault {
	var l []fault
	for _, f := range faults {
		if slices.Contains(c.takes, f.argument) {
			l = append(l, f)
		}
	}
	return l
}

// refused checks what a call answers where several things are amiss. They are laid on from the last in the order to the first, so that none takes away one that comes ahead of it.
func (c call) refused(t *testing.T, s *setting, want api.Code, faults ...fault) {
	t.Helper()
	a := s.right(rand.New(rand.NewSource(90)))
	name := c.name
	for _, f := range faults {
		f.spoil(a)
		name += ", " + f.argument + " " + f.name
	}
	got, err := c.run(a)
	wantError(t, got, err, want, name, s.p)
}

// P7.1, P1: each thing that may be amiss, on its own: in its kind of error, as a plain code, and with nothing beside it.
func TestOneFault(t *testing.T) {
	for _, s := range settings(t) {
		for _, c := range calls() {
			if got, err := c.run(s.right(rand.New(rand.NewSource(90)))); err != nil || len(got) == 0 {
				t.Fatalf("%s with nothing amiss: %x, %v", c.name, got, err)
			}
			for _, f := range c.of(slices.Concat(shapeFaults(), longFaults(), groupFaults(s))) {
				c.refused(t, s, f.want, f)
			}
		}
	}
}

// P7.1, R1: of two things that are amiss, the one that comes first in the order is told, wherever in the arguments the other one is.
func TestTwoFaults(t *testing.T) {
	s := chapters(t)
	for _, c := range calls() {
		shape, long, none := c.of(shapeFaults()), c.of(longFaults()), c.of(groupFaults(s))
		for _, first := range slices.Concat(shape, long) {
			for _, second := range slices.Concat(long, none) {
				if first.rank() < second.rank() {
					c.refused(t, s, first.want, second, first)
				}
			}
		}
	}
}

// P7.1, R1: three things amiss, one of each kind; and without a group nothing else counts.
func TestThreeFaults(t *testing.T) {
	s := thirtyBits(t)
	for _, c := range calls() {
		shape, long, none := c.of(shapeFaults()), c.of(longFaults()), c.of(groupFaults(s))
		for _, l := range long {
			for i, n := range none {
				first := shape[i%len(shape)]
				c.refused(t, s, api.ErrArg, n, l, first)
				c.refused(t, s, api.ErrArg, n, l, shape[0])
				c.refused(t, s, api.ErrArg, n, first, shape[0])
			}
		}
	}
}

// P7.1, P1: calls without anything, in a group and in none.
func TestNothingAtAll(t *testing.T) {
	for _, s := range settings(t) {
		for _, c := range calls() {
			got, err := c.run(&arguments{})
			wantError(t, got, err, api.ErrArg, c.name+" of nothing, in no group")
			want := api.ErrArg
			if c.name == "Mix" {
				// A batch may be empty, but 0 is no key.
				want = api.ErrGroup
			}
			got, err = c.run(&arguments{x: s.x})
			wantError(t, got, err, want, c.name+" of nothing", s.p)
		}
	}
}

// withLength are arguments of letters of n pairs, and so many scalars.
func (s *setting) withLength(r *rand.Rand, n, scalars int) *arguments {
	return &arguments{x: s.x, key: api.Nat{4}, secret: api.Nat{5}, m: s.anyElements(r, n), l: s.anyLetter(r, n), r: s.anyScalars(r, scalars)}
}

// letterCalls are the calls that take one letter, or what one says.
func letterCalls() []call {
	return slices.DeleteFunc(calls(), func(c call) bool { return slices.Contains(c.takes, "b") })
}

// P7.1: letters of all lengths that may be, and of others, with as many scalars.
func TestLengths(t *testing.T) {
	r := rand.New(rand.NewSource(91))
	s := least(t)
	for n := 1; n <= api.MaxParts; n++ {
		for _, c := range letterCalls() {
			if got, err := c.run(s.withLength(r, n, n)); err != nil || len(got)%n != 0 || len(got) == 0 {
				t.Fatalf("%s of %d pairs: %d numbers, %v", c.name, n, len(got), err)
			}
		}
	}
	for _, n := range wrongParts() {
		for _, c := range letterCalls() {
			got, err := c.run(s.withLength(r, n, n))
			wantError(t, got, err, api.ErrArg, c.name, n)
		}
	}
}

// P7.1: letters of all lengths that may be, with fewer scalars and with more.
func TestScalarsThatDoNotFit(t *testing.T) {
	r := rand.New(rand.NewSource(93))
	s := least(t)
	for n := 1; n <= api.MaxParts; n++ {
		for _, scalars := range []int{0, n - 1, n + 1, 2*n + 1, 100} {
			for _, c := range letterCalls() {
				if slices.Contains(c.takes, "r") {
					got, err := c.run(s.withLength(r, n, scalars))
					wantError(t, got, err, api.ErrArg, c.name, n, scalars)
				}
			}
		}
	}
}

// P7.1: in every place of a letter a number that is no element, or a scalar that is too long.
func TestWrongAnywhere(t *testing.T) {
	r := rand.New(rand.NewSource(92))
	s := thirtyBits(t)
	for place := range api.MaxParts {
		for _, c := range letterCalls() {
			for part := range 3 {
				a := s.withLength(r, 32, 32)
				a.m[place] = plus(fromBig(s.p), -4)
				*numbersOf(&a.l[place])[part] = plus(fromBig(s.p), 4)
				got, err := c.run(a)
				wantError(t, got, err, api.ErrGroup, c.name, place, part)
			}
			if slices.Contains(c.takes, "r") {
				a := s.withLength(r, 32, 32)
				a.r[place] = full(65)
				got, err := c.run(a)
				wantError(t, got, err, api.ErrLong, c.name, place)
			}
		}
	}
}
