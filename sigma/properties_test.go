package sigma_test

import (
	"math/rand"
	"testing"

	"treenail/api"
	"treenail/sigma"
)

// accepted makes proofs of all kinds, and checks them with powers that the group itself answers; it tells the proofs.
func (s *setting) accepted(t *testing.T, context []byte, a, secret, k api.Nat) [3]api.Proof {
	t.Helper()
	y, errY := s.x.Base(secret)
	d, errD := s.x.Exp(a, secret)
	know, errKnow := sigma.Know(s.x, context, secret, k)
	equal, errEqual := sigma.Equal(s.x, context, a, secret, k)
	sign, errSign := sigma.Sign(s.x, context, secret, k)
	for _, err := range []error{
		errY, errD, errKnow, errEqual, errSign,
		sigma.Knows(s.x, context, y, know), sigma.Equals(s.x, context, y, a, d, equal), sigma.Signed(s.x, context, y, sign),
	} {
		if err != nil {
			t.Fatalf("modulo %x, of %x, %x, %x: %v", s.p, a, secret, k, err)
		}
	}
	return [3]api.Proof{know, equal, sign}
}

// P8.6: each proof that is made is accepted, by scalars at the edges and others.
func TestMadeIsAccepted(t *testing.T) {
	r := rand.New(rand.NewSource(160))
	for _, s := range settings(t) {
		elements := append(s.elements(), s.element(r))
		for i, secret := range append(s.scalars(), s.scalar(r)) {
			for j, k := range append(s.scalars(), s.scalar(r)) {
				s.accepted(t, contexts()[(i+j)%8], elements[(i+2*j)%len(elements)], secret, k)
			}
		}
	}
}

// P8.6: each secret and each k of the smallest group.
func TestMadeIsAcceptedInAll(t *testing.T) {
	s := least(t)
	for secret := range uint64(282) {
		for k := secret % 9; k < 282; k += 9 {
			s.accepted(t, []byte{byte(k)}, api.Nat{9}, api.Nat{secret}, api.Nat{k})
		}
	}
}

// P8.6: scalars with Qs more make the very same proofs, so that they are accepted for the same powers.
func TestScalarsModuloQ(t *testing.T) {
	r := rand.New(rand.NewSource(161))
	for _, s := range settings(t) {
		for _, secret := range []api.Nat{nil, {1}, s.scalar(r)} {
			k, a := s.scalar(r), s.element(r)
			want := s.accepted(t, []byte("c"), a, secret, k)
			for i, more := range s.withQs(secret) {
				for _, l := range [][2]api.Nat{{more, k}, {secret, s.withQs(k)[i]}, {more, s.withQs(k)[i]}} {
					for j, got := range s.accepted(t, []byte("c"), a, l[0], l[1]) {
						wantProof(t, got, nil, want[j], "a proof by more", s.p, l[0], l[1])
					}
				}
			}
		}
	}
}

// P8.6, P8.2, P8.3, P8.4: a group as great as a group may be, with elements of 256 bytes.
func TestGreatestGroup(t *testing.T) {
	r := rand.New(rand.NewSource(162))
	s := greatest(t)
	secret, k, a, context := s.scalar(r), s.scalar(r), s.element(r), []byte("greatest")
	got := s.accepted(t, context, a, full(64), k)
	want := s.of(context, full(64), k, a)
	for i, p := range want.proofs() {
		wantProof(t, got[i], nil, *p, "a proof in the greatest group", i)
	}
	right := s.of(context, secret, api.Nat{3}, a)
	for _, c := range s.wrongChanges(right.same)[:4] {
		wantVerdict(t, sigma.Equals(s.x, context, right.y, a, right.d, c.to), false, "Equals in the greatest group", c.name)
	}
}

// R3, and the package's own: the same call answers the same, whatever was called between.
func TestSameCallSameAnswer(t *testing.T) {
	r := rand.New(rand.NewSource(163))
	for _, s := range settings(t) {
		a := s.right(r)
		for _, c := range calls() {
			first, err := c.run(a)
			if err != nil {
				t.Fatal(err)
			}
			for range 5 {
				for _, other := range calls() {
					between := s.right(r)
					between.y = nil
					other.run(between)
				}
				if got, err := c.run(a); err != nil || !sameProof(got, first) {
					t.Fatalf("%s: %x, then %x, %v", c.name, first, got, err)
				}
			}
		}
	}
}
