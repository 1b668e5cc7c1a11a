package mix_test

import (
	"math/rand"
	"slices"

	"treenail/api"
	"treenail/group"
	"treenail/mix"
)

// arguments are those of all calls; each call takes some of them.
type arguments struct {
	x           *group.Group
	key, secret api.Nat
	m, r        []api.Nat
	l           []api.Pair
	b           [][]api.Pair
	perm        []int
	lists       [][]api.Nat
}

// call is a call as one of many: which arguments it takes, and all that it answers, number by number.
type call struct {
	name  string
	takes []string
	run   func(a *arguments) ([]api.Nat, error)
}

// calls are all calls of the layer.
func calls() []call {
	return []call{
		{"Seal", []string{"x", "key", "m", "r"}, func(a *arguments) ([]api.Nat, error) { return numbers(mix.Seal(a.x, a.key, a.m, a.r)) }},
		{"Anew", []string{"x", "key", "l", "r"}, func(a *arguments) ([]api.Nat, error) { return numbers(mix.Anew(a.x, a.key, a.l, a.r)) }},
		{"Mix", []string{"x", "key", "b", "perm", "lists"}, func(a *arguments) ([]api.Nat, error) {
			b, err := mix.Mix(a.x, a.key, a.b, a.perm, a.lists)
			return numbers(slices.Concat(b...), err)
		}},
		{"Strip", []string{"x", "key", "secret", "l", "r"}, func(a *arguments) ([]api.Nat, error) { return numbers(mix.Strip(a.x, a.secret, a.key, a.l, a.r)) }},
		{"Turn", []string{"x", "l"}, func(a *arguments) ([]api.Nat, error) { return numbers(mix.Turn(a.x, a.l)) }},
		{"Open", []string{"x", "l"}, func(a *arguments) ([]api.Nat, error) { return mix.Open(a.x, a.l) }},
	}
}

// numbers are the numbers of pairs, in the memory in which they are.
func numbers(l []api.Pair, err error) ([]api.Nat, error) {
	var z []api.Nat
	for _, p := range l {
		z = append(z, p.A, p.B, p.C)
	}
	return z, err
}

// right are arguments with which every call succeeds: a letter of 3 pairs, a batch of 4 letters of 2 pairs.
func (s *setting) right(r *rand.Rand) *arguments {
	return &arguments{
		s.x, s.element(r), s.scalar(r), s.anyElements(r, 3), s.anyScalars(r, 3), s.anyLetter(r, 3),
		s.anyBatch(r, 4, 2), r.Perm(4), s.anyLists(r, 4, 2),
	}
}
