package sigma_test

import (
	"math/rand"
	"slices"

	"treenail/api"
	"treenail/group"
	"treenail/sigma"
)

// arguments are those of all calls; each call takes some of them.
type arguments struct {
	x                   *group.Group
	context             []byte
	s, k, y, a, d       api.Nat
	known, same, signed api.Proof
}

// call is a call as one of many: which arguments it takes, and what it answers; one that checks a proof answers none.
type call struct {
	name  string
	takes []string
	run   func(a *arguments) (api.Proof, error)
}

// calls are all calls of the layer.
func calls() []call {
	return []call{
		{"Know", []string{"x", "context", "s", "k"}, func(a *arguments) (api.Proof, error) { return sigma.Know(a.x, a.context, a.s, a.k) }},
		{"Knows", []string{"x", "context", "E", "Z", "y"}, func(a *arguments) (api.Proof, error) {
			return api.Proof{}, sigma.Knows(a.x, a.context, a.y, a.known)
		}},
		{"Equal", []string{"x", "context", "s", "k", "a"}, func(a *arguments) (api.Proof, error) {
			return sigma.Equal(a.x, a.context, a.a, a.s, a.k)
		}},
		{"Equals", []string{"x", "context", "E", "Z", "y", "a", "d"}, func(a *arguments) (api.Proof, error) {
			return api.Proof{}, sigma.Equals(a.x, a.context, a.y, a.a, a.d, a.same)
		}},
		{"Sign", []string{"x", "context", "s", "k"}, func(a *arguments) (api.Proof, error) { return sigma.Sign(a.x, a.context, a.s, a.k) }},
		{"Signed", []string{"x", "context", "E", "Z", "y"}, func(a *arguments) (api.Proof, error) {
			return api.Proof{}, sigma.Signed(a.x, a.context, a.y, a.signed)
		}},
	}
}

// makes tells whether a call makes a proof.
func (c call) makes() bool { return slices.Contains(c.takes, "s") }

// of are arguments of two scalars, a context and an element with which every call succeeds.
func (s *setting) of(context []byte, secret, k, a api.Nat) *arguments {
	return &arguments{
		s.x, context, secret, k, s.base(secret), a, s.exp(a, secret),
		s.prove("know", context, secret, k), s.proveEqual(context, a, secret, k), s.prove("sign", context, secret, k),
	}
}

// right are any arguments with which every call succeeds.
func (s *setting) right(r *rand.Rand) *arguments {
	return s.of([]byte("the context"), s.scalar(r), s.scalar(r), s.element(r))
}

// proofs are all proofs among arguments.
func (a *arguments) proofs() []*api.Proof { return []*api.Proof{&a.known, &a.same, &a.signed} }

// eachProof changes all proofs among arguments.
func (a *arguments) eachProof(change func(p *api.Proof)) {
	for _, p := range a.proofs() {
		change(p)
	}
}
