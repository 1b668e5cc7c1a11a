package group_test

import (
	"bytes"
	"math/rand"
	"slices"
	"sync"
	"testing"

	"treenail/api"
	"treenail/group"
	"treenail/mont"
)

// call is a call of a group with two numbers, of which it may take one or none.
type call struct {
	name string
	run  func(a, b api.Nat) (api.Nat, error)
}

// callsOf are all calls of a group that answer numbers; Decode's bytes are told as limbs.
func callsOf(x *group.Group) []call {
	return []call{
		{"P", func(_, _ api.Nat) (api.Nat, error) { return x.P(), nil }},
		{"Q", func(_, _ api.Nat) (api.Nat, error) { return x.Q(), nil }},
		{"G", func(_, _ api.Nat) (api.Nat, error) { return x.G(), nil }},
		{"Scalars", func(_, _ api.Nat) (api.Nat, error) { return x.Scalars().Modulus(), nil }},
		{"Is", func(a, _ api.Nat) (api.Nat, error) {
			if x.Is(a) {
				return api.Nat{1}, nil
			}
			return nil, nil
		}},
		{"Mul", x.Mul},
		{"Over", x.Over},
		{"Exp", x.Exp},
		{"Base", func(a, _ api.Nat) (api.Nat, error) { return x.Base(a) }},
		{"Decode", func(a, _ api.Nat) (api.Nat, error) {
			b, err := x.Decode(a)
			z := make(api.Nat, len(b))
			for i := range b {
				z[i] = uint64(b[i])
			}
			return z, err
		}},
	}
}

// roomy is a number with room behind it that holds something: what a call must not write to.
func roomy(a api.Nat) api.Nat {
	b := append(slices.Clone(a), 77, 78, 79)
	return b[:len(a)]
}

// whole is a list with the room behind it.
func whole[E any](a []E) []E { return a[:cap(a)] }

// overwrite spoils a list and the room behind it.
func overwrite[E byte | uint64](a []E) {
	for i := range whole(a) {
		whole(a)[i] = 0x5d
	}
}

// eachSharing goes through arguments of few groups: those that a call might hand on as they are, and others.
func eachSharing(t *testing.T, try func(x *group.Group, a, b api.Nat)) {
	t.Helper()
	r := rand.New(rand.NewSource(48))
	for _, g := range []api.Group{least(), chapters(), great(4, [2]int64{255, 10626})} {
		x := made(t, g)
		l := []api.Nat{nil, {0, 0}, {1}, {1, 0}, {4}, {16}, {4, 0, 0}, plus(x.P(), -1), x.P(), x.Q(), plus(x.Q(), 1), plus(x.P(), 4), some(r, 5), full(65)}
		for _, a := range l {
			for _, b := range l {
				try(x, a, b)
			}
		}
	}
}

// P4.4, R2: arguments stay as they were, also when an answer is written to, and no answer is part of the group.
func TestArgumentsStay(t *testing.T) {
	eachSharing(t, func(x *group.Group, a, b api.Nat) {
		for _, c := range callsOf(x) {
			y, z := roomy(a), roomy(b)
			wasY, wasZ := slices.Clone(whole(y)), slices.Clone(whole(z))
			answer, err := c.run(y, z)
			before := slices.Clone(answer)
			overwrite(answer)
			if !slices.Equal(whole(y), wasY) || !slices.Equal(whole(z), wasZ) {
				t.Fatalf("%s(%x, %x): an argument has changed", c.name, a, b)
			}
			if again, errAgain := c.run(y, z); !slices.Equal(again, before) || err != errAgain {
				t.Fatalf("%s(%x, %x): an answer is part of the group", c.name, a, b)
			}
		}
	})
}

// P4.4, R2: whoever writes to an argument later changes no answer, neither one given nor one to come.
func TestArgumentsAreNotKept(t *testing.T) {
	eachSharing(t, func(x *group.Group, a, b api.Nat) {
		for _, c := range callsOf(x) {
			y, z := roomy(a), roomy(b)
			answer, _ := c.run(y, z)
			before := slices.Clone(answer)
			overwrite(y)
			overwrite(z)
			again, _ := c.run(roomy(a), roomy(b))
			if !slices.Equal(answer, before) || !slices.Equal(again, before) {
				t.Fatalf("%s(%x, %x): an argument is kept", c.name, a, b)
			}
		}
	})
}

// P4.4, R2: one list as both arguments.
func TestOneListTwice(t *testing.T) {
	eachSharing(t, func(x *group.Group, a, _ api.Nat) {
		for _, c := range callsOf(x) {
			y := roomy(a)
			was := slices.Clone(whole(y))
			got, err := c.run(y, y)
			want, wantErr := c.run(a, slices.Clone(a))
			if !slices.Equal(got, want) || err != wantErr || !slices.Equal(whole(y), was) {
				t.Fatalf("%s(%x, the same) is %x, %v", c.name, a, got, err)
			}
		}
	})
}

// P4.4, R2: the bytes of Encode and Decode are their own.
func TestBytesAreTheirOwn(t *testing.T) {
	for _, g := range ordinary() {
		x := made(t, g)
		for _, k := range []byte{0, 1, 2, 3, 4, 0xff} {
			room := append(bytes.Repeat([]byte{k}, x.Size()), 77, 78)
			b := room[:x.Size()]
			was := slices.Clone(room)
			z, err := x.Encode(b)
			if err != nil || !bytes.Equal(room, was) {
				t.Fatalf("Encode(%x): %x, %v", was, room, err)
			}
			before := slices.Clone(z)
			overwrite(room)
			first, err := x.Decode(z)
			if err != nil || !slices.Equal(z, before) || !bytes.Equal(first, was[:x.Size()]) {
				t.Fatalf("Decode(%x): %x, %v", before, first, err)
			}
			overwrite(first)
			overwrite(z)
			if again, err := x.Decode(before); err != nil || !bytes.Equal(again, was[:x.Size()]) {
				t.Fatalf("Decode(%x), again: %x, %v", before, again, err)
			}
		}
	}
}

// numbersOf are all numbers of a description, with the room behind them.
func numbersOf(g api.Group) []api.Nat {
	l := []api.Nat{g.G}
	for _, s := range g.Chain {
		l = append(l, s.P, s.Q, s.A)
	}
	return l
}

// everything is all limbs of a description in one list.
func everything(g api.Group) api.Nat {
	var l api.Nat
	for _, a := range numbersOf(g) {
		l = append(l, whole(a)...)
	}
	return l
}

// roomyGroup is a description of which each number has room behind it.
func roomyGroup(g api.Group) api.Group {
	g = copied(g)
	g.G = roomy(g.G)
	for i, s := range g.Chain {
		g.Chain[i] = api.Step{P: roomy(s.P), Q: roomy(s.Q), A: roomy(s.A)}
	}
	return g
}

// P4.4, R2: New changes nothing of a description, and keeps nothing of it.
func TestDescriptionIsNotKept(t *testing.T) {
	for _, g := range append(ordinary(), withG(chapters(), api.Nat{4, 0}), withG(thirtyBits(), api.Nat{2})) {
		argument := roomyGroup(g)
		was := everything(argument)
		x := made(t, argument)
		if !slices.Equal(everything(argument), was) {
			t.Fatalf("New(%x) has changed its argument", g)
		}
		for _, a := range numbersOf(argument) {
			overwrite(a)
		}
		clear(argument.Chain)
		is(t, x, toBig(g.Chain[0].P), toBig(g.Chain[0].Q), toBig(g.G))
		z, err := x.Base(api.Nat{3})
		sameNumber(t, z, err, powerOf(g.G, api.Nat{3}, toBig(g.Chain[0].P)), "Base(3)")
		if !x.Is(api.Nat{9}) {
			t.Errorf("Is(9) modulo %x is false", x.P())
		}
	}
}

// P4.4, R2: what Scalars answers may be overwritten, as all that is answered.
func TestScalarsAreTheirOwn(t *testing.T) {
	x := made(t, chapters())
	other, err := mont.New(api.Nat{23})
	if err != nil {
		t.Fatal(err)
	}
	given := x.Scalars()
	*given = *other
	sameNumber(t, x.Scalars().Modulus(), nil, toBig(api.Nat{50273}), "the modulus of Scalars")
	z, err := x.Base(api.Nat{50274})
	sameNumber(t, z, err, toBig(api.Nat{4}), "Base(Q and 1)")
}

// P4.4: many callers at once get what one alone gets, all with the same arguments.
func TestManyAtOnce(t *testing.T) {
	for _, g := range []api.Group{thirtyBits(), great(4, [2]int64{255, 10626})} {
		x := made(t, g)
		a, _ := x.Base(full(3))
		b, _ := x.Base(full(2))
		text := bytes.Repeat([]byte{9}, x.Size())
		element, _ := x.Encode(text)
		var want []api.Nat
		for _, c := range callsOf(x) {
			z, _ := c.run(a, b)
			want = append(want, z)
		}
		var all sync.WaitGroup
		for range 16 {
			all.Go(func() {
				for range 10 {
					for i, c := range callsOf(x) {
						if got, _ := c.run(a, b); !slices.Equal(got, want[i]) {
							t.Errorf("%s, many at once: %x", c.name, got)
						}
					}
					if got, err := x.Encode(text); err != nil || !slices.Equal(got, element) {
						t.Errorf("Encode, many at once: %x, %v", got, err)
					}
				}
			})
		}
		all.Wait()
	}
}
