package sigma_test

import (
	"math/rand"
	"testing"

	"treenail/api"
	"treenail/sigma"
)

// P8.3: proofs by scalars at the edges, each with each, for elements at the edges and contexts of all kinds.
func TestEqual(t *testing.T) {
	for _, s := range settings(t) {
		all, elements := contexts(), s.elements()
		for i, secret := range s.scalars() {
			for j, k := range s.scalars() {
				context, a := all[(i+2*j)%(len(all)-1)], elements[(i+j)%len(elements)]
				if i == j {
					context = all[len(all)-1]
				}
				got, err := sigma.Equal(s.x, context, a, secret, k)
				wantProof(t, got, err, s.proveEqual(context, a, secret, k), "Equal", s.p, len(context), a, secret, k)
			}
		}
	}
}

// P8.3: proofs by any scalars, for each context, and for elements at the edges and others.
func TestEqualOfAnyScalars(t *testing.T) {
	r := rand.New(rand.NewSource(130))
	for _, s := range settings(t) {
		for _, context := range contexts() {
			for _, a := range append(s.elements(), s.element(r), s.element(r)) {
				secret, k := s.scalar(r), s.scalar(r)
				got, err := sigma.Equal(s.x, context, a, secret, k)
				wantProof(t, got, err, s.proveEqual(context, a, secret, k), "Equal", s.p, len(context), a, secret, k)
			}
		}
	}
}

// P8.3: a proof holds however its numbers and the elements are told, but not with an E that is Q more.
func TestEquals(t *testing.T) {
	r := rand.New(rand.NewSource(131))
	for _, s := range settings(t) {
		elements := append(s.elements(), s.element(r))
		for i, secret := range append(s.scalars(), s.scalar(r), s.scalar(r)) {
			a, k, context := elements[i%len(elements)], s.scalar(r), contexts()[r.Intn(8)]
			p, y, d := s.proveEqual(context, a, secret, k), s.base(secret), s.exp(a, secret)
			for _, c := range s.rightChanges(p) {
				wantVerdict(t, sigma.Equals(s.x, context, y, a, d, c.to), true, "Equals", s.p, c.name, a, secret, k)
				wantVerdict(t, sigma.Equals(s.x, context, padded(y, 1), padded(a, 70), padded(d, 2), c.to), true, "Equals", s.p, c.name, a, secret, k)
			}
			for _, c := range s.tooGreat(p) {
				wantVerdict(t, sigma.Equals(s.x, context, y, a, d, c.to), false, "Equals", s.p, c.name, a, secret, k)
			}
		}
	}
}

// P8.3: another E or Z, another context, other elements, and elements in each other's places.
func TestEqualsOfOthers(t *testing.T) {
	r := rand.New(rand.NewSource(132))
	for _, s := range settings(t) {
		for _, secret := range []api.Nat{{2, 0}, s.scalar(r), s.scalar(r), full(64)} {
			for _, a := range []api.Nat{s.elements()[2], s.element(r)} {
				context := contexts()[r.Intn(8)]
				p, y, d := s.proveEqual(context, a, secret, s.scalar(r)), s.base(secret), s.exp(a, secret)
				try := func(context []byte, y, a, d api.Nat, p api.Proof, what string) {
					t.Helper()
					holds := s.holdsEqual(context, y, a, d, p)
					if holds && s.tellsApart() {
						t.Fatalf("Equals modulo %x: %s holds", s.p, what)
					}
					wantVerdict(t, sigma.Equals(s.x, context, y, a, d, p), holds, "Equals", s.p, what, a, secret)
				}
				for _, c := range s.wrongChanges(p) {
					try(context, y, a, d, c.to, c.name)
				}
				for _, other := range otherContexts(context) {
					try(other, y, a, d, p, "another context")
				}
				for _, other := range append(s.elements(), s.element(r)) {
					for place, was := range []api.Nat{y, a, d} {
						l := []api.Nat{y, a, d}
						if l[place] = other; toBig(other).Cmp(toBig(was)) != 0 {
							try(context, l[0], l[1], l[2], p, "another element")
						}
					}
				}
				for _, l := range [][3]api.Nat{{y, d, a}, {a, y, d}, {d, a, y}, {a, d, y}, {d, y, a}, {y, a, s.mul(d, a)}, {s.mul(y, fromBig(s.g)), a, s.mul(d, a)}} {
					try(context, l[0], l[1], l[2], p, "elements in other places")
				}
			}
		}
	}
}

// P8.3: where d is another power of a than y is of G, the two halves of a proof don't fit together: neither the proof by y's scalar nor the one by d's holds, though all that is in its challenge is as it should be.
func TestEqualsOfAnotherPower(t *testing.T) {
	r := rand.New(rand.NewSource(133))
	for _, s := range settings(t) {
		for range 20 {
			secret, k, context, a := s.scalar(r), s.scalar(r), []byte("c"), s.element(r)
			other := plus(secret, 1+r.Int63n(200))
			y, d := s.base(secret), s.exp(a, other)
			e := s.challenge("equal", context, y, a, d, s.base(k), s.exp(a, k))
			for _, by := range []api.Nat{secret, other} {
				p := s.answered(e, by, k)
				holds := s.holdsEqual(context, y, a, d, p)
				if holds && s.tellsApart() {
					t.Fatalf("a proof of two scalars holds modulo %x", s.p)
				}
				wantVerdict(t, sigma.Equals(s.x, context, y, a, d, p), holds, "Equals", s.p, a, secret, other, k)
			}
		}
	}
}
