package sigma_test

import (
	"bytes"
	"math/rand"
	"testing"

	"treenail/api"
	"treenail/sigma"
)

// P8.2, P8.4: proofs by scalars at the edges, each with each, for contexts of all kinds.
func TestKnow(t *testing.T) {
	for _, s := range settings(t) {
		for i, secret := range s.scalars() {
			for j, k := range s.scalars() {
				// The long one only now and then, since digesting it takes long.
				all := contexts()
				context := all[(i+j)%(len(all)-1)]
				if i == j {
					context = all[len(all)-1]
				}
				for _, kind := range kinds() {
					got, err := kind.make(s.x, context, secret, k)
					wantProof(t, got, err, s.prove(kind.label, context, secret, k), kind.name, s.p, len(context), secret, k)
				}
			}
		}
	}
}

// P8.2, P8.4: proofs by any scalars, and for each context.
func TestKnowOfAnyScalars(t *testing.T) {
	r := rand.New(rand.NewSource(120))
	for _, s := range settings(t) {
		for _, context := range contexts() {
			for range 3 {
				secret, k := s.scalar(r), s.scalar(r)
				for _, kind := range kinds() {
					got, err := kind.make(s.x, context, secret, k)
					wantProof(t, got, err, s.prove(kind.label, context, secret, k), kind.name, s.p, len(context), secret, k)
				}
			}
		}
	}
}

// P8.2, P8.4: a proof holds however its numbers are told, but not with an E that is Q more; it holds for an element told with zeros at its end.
func TestKnows(t *testing.T) {
	r := rand.New(rand.NewSource(121))
	for _, s := range settings(t) {
		for _, secret := range append(s.scalars(), s.scalar(r), s.scalar(r)) {
			for _, kind := range kinds() {
				k, context := s.scalar(r), contexts()[r.Intn(8)]
				p, y := s.prove(kind.label, context, secret, k), s.base(secret)
				for _, c := range s.rightChanges(p) {
					wantVerdict(t, kind.check(s.x, context, y, c.to), true, kind.name, s.p, c.name, secret, k)
					wantVerdict(t, kind.check(s.x, context, padded(y, 70), c.to), true, kind.name, s.p, c.name, secret, k)
				}
				for _, c := range s.tooGreat(p) {
					wantVerdict(t, kind.check(s.x, context, y, c.to), false, kind.name, s.p, c.name, secret, k)
				}
			}
		}
	}
}

// P8.2, P8.4: another E or Z, another context, another element.
func TestKnowsOfOthers(t *testing.T) {
	r := rand.New(rand.NewSource(122))
	for _, s := range settings(t) {
		for _, secret := range []api.Nat{nil, {1}, {2, 0}, s.scalar(r), s.scalar(r), full(64)} {
			for _, kind := range kinds() {
				context := contexts()[r.Intn(8)]
				p, y := s.prove(kind.label, context, secret, s.scalar(r)), s.base(secret)
				try := func(context []byte, y api.Nat, p api.Proof, what string) {
					t.Helper()
					holds := s.holds(kind.label, context, y, p)
					if holds && s.tellsApart() {
						t.Fatalf("%s modulo %x: %s holds", kind.name, s.p, what)
					}
					wantVerdict(t, kind.check(s.x, context, y, p), holds, kind.name, s.p, what, secret)
				}
				for _, c := range s.wrongChanges(p) {
					try(context, y, c.to, c.name)
				}
				for _, other := range otherContexts(context) {
					try(other, y, p, "another context")
				}
				for _, other := range append(s.elements(), s.mul(y, fromBig(s.g)), s.over(y, fromBig(s.g)), s.exp(y, api.Nat{3})) {
					if toBig(other).Cmp(toBig(y)) != 0 {
						try(context, other, p, "another element")
					}
				}
			}
		}
	}
}

// P8.2, P8.4: a proof of one kind doesn't pass for one of another kind, nor does one for a context that begins with the end of the label.
func TestKindsAreApart(t *testing.T) {
	r := rand.New(rand.NewSource(123))
	for _, s := range settings(t) {
		secret, k, context := s.scalar(r), s.scalar(r), []byte("context")
		y, a := s.base(secret), s.element(r)
		d := s.exp(a, secret)
		know, equal, sign := s.prove("know", context, secret, k), s.proveEqual(context, a, secret, k), s.prove("sign", context, secret, k)
		for _, c := range []struct {
			what  string
			got   error
			holds bool
		}{
			{"Know's at Signed", sigma.Signed(s.x, context, y, know), s.holds("sign", context, y, know)},
			{"Sign's at Knows", sigma.Knows(s.x, context, y, sign), s.holds("know", context, y, sign)},
			{"Equal's at Knows", sigma.Knows(s.x, context, y, equal), s.holds("know", context, y, equal)},
			{"Equal's at Signed", sigma.Signed(s.x, context, y, equal), s.holds("sign", context, y, equal)},
			{"Know's at Equals", sigma.Equals(s.x, context, y, a, d, know), s.holdsEqual(context, y, a, d, know)},
			{"Sign's at Equals", sigma.Equals(s.x, context, y, a, d, sign), s.holdsEqual(context, y, a, d, sign)},
		} {
			if c.holds && s.tellsApart() {
				t.Fatalf("%s holds modulo %x", c.what, s.p)
			}
			wantVerdict(t, c.got, c.holds, c.what, s.p)
		}
		shifted := s.prove("kno", append([]byte("w"), context...), secret, k)
		wantVerdict(t, sigma.Knows(s.x, context, y, shifted), s.holds("know", context, y, shifted), "a shifted label", s.p)
	}
}

// shortScalars are n scalars by which G is an element with a zero byte in front, or with several.
func (s *setting) shortScalars(n int) []api.Nat {
	size := (s.p.BitLen() + 7) / 8
	var l []api.Nat
	for k := uint64(2); len(l) < n; k++ {
		b := toBig(s.base(api.Nat{k})).FillBytes(make([]byte, size))
		if len(bytes.TrimLeft(b, "\x00")) < size {
			l = append(l, api.Nat{k})
		}
	}
	return l
}

// The definition of an element's bytes: they are as many as P asks for, also where some in front are zero.
func TestZeroBytesInFront(t *testing.T) {
	for _, s := range settings(t) {
		l := append(s.shortScalars(3), api.Nat{1}, nil)
		for _, secret := range l {
			for _, k := range l {
				a := s.base(l[0])
				for _, kind := range kinds() {
					got, err := kind.make(s.x, nil, secret, k)
					wantProof(t, got, err, s.prove(kind.label, nil, secret, k), kind.name, s.p, secret, k)
					wantVerdict(t, kind.check(s.x, nil, s.base(secret), got), true, kind.name, s.p, secret, k)
				}
				got, err := sigma.Equal(s.x, nil, a, secret, k)
				wantProof(t, got, err, s.proveEqual(nil, a, secret, k), "Equal", s.p, secret, k)
				wantVerdict(t, sigma.Equals(s.x, nil, s.base(secret), a, s.exp(a, secret), got), true, "Equals", s.p, secret, k)
			}
		}
	}
}

// P8.2, P8.4: each proof that there is for an element of the smallest group: those that hold are those that the chapter says.
func TestAllProofs(t *testing.T) {
	s := least(t)
	for _, kind := range kinds() {
		held := 0
		y := s.base(api.Nat{77})
		for e := range uint64(281 + 3) {
			for z := uint64(0); z < 281; z += 7 {
				p := api.Proof{E: api.Nat{e}, Z: api.Nat{z}}
				holds := s.holds(kind.label, []byte("c"), y, p)
				wantVerdict(t, kind.check(s.x, []byte("c"), y, p), holds, kind.name, e, z)
				if holds {
					held++
				}
			}
		}
		if held == 0 {
			t.Errorf("%s: no proof holds", kind.name)
		}
	}
}
