package seal_test

import (
	"math/rand"
	"testing"

	"treenail/api"
	"treenail/seal"
)

// closed seals bytes to a key that the group itself answers, and opens the letter again; it tells the letter.
func (s *setting) closed(t *testing.T, secret api.Nat, body []byte, r api.Nat) api.Letter {
	t.Helper()
	key, err := s.x.Base(secret)
	if err != nil {
		t.Fatal(err)
	}
	l, err := seal.Close(s.x, key, body, r)
	if err != nil {
		t.Fatal(err)
	}
	got, err := seal.Open(s.x, secret, l)
	wantOpened(t, got, err, body, s.p, secret, l)
	return l
}

// P10.4: what was sealed opens, with secrets and scalars at the edges and others, and bytes of all lengths.
func TestClosedOpens(t *testing.T) {
	r := rand.New(rand.NewSource(360))
	for _, s := range settings(t) {
		all := bodies(r)
		for i, secret := range append(s.scalars(), s.scalar(r)) {
			for j, scalar := range append(s.scalars(), s.scalar(r)) {
				s.closed(t, secret, all[(i+3*j)%len(all)], scalar)
			}
		}
		for n := range 140 {
			s.closed(t, s.scalar(r), someBytes(r, n), s.scalar(r))
		}
	}
}

// P10.4: as many bytes as there may be.
func TestMostBytesOpen(t *testing.T) {
	r := rand.New(rand.NewSource(361))
	for _, s := range []*setting{least(t), thirtyBits(t), fourLimbs(t)} {
		s.closed(t, s.scalar(r), someBytes(r, most), s.scalar(r))
	}
}

// P10.4: each secret of the smallest group, with scalars all over it.
func TestClosedOpensInAll(t *testing.T) {
	s := least(t)
	for secret := range uint64(282) {
		for scalar := secret % 9; scalar < 282; scalar += 9 {
			s.closed(t, api.Nat{secret}, []byte{byte(secret), byte(scalar)}, api.Nat{scalar})
		}
	}
}

// P10.1, P10.2, P10.4: secrets and scalars with Qs more make the very same letter, and it opens with each of the secrets.
func TestClosedModuloQ(t *testing.T) {
	r := rand.New(rand.NewSource(362))
	for _, s := range settings(t) {
		for _, secret := range []api.Nat{nil, {1}, s.scalar(r)} {
			scalar, body := s.scalar(r), someBytes(r, 45)
			want := s.closed(t, secret, body, scalar)
			for i, more := range s.withQs(secret) {
				for _, l := range [][2]api.Nat{{more, scalar}, {secret, s.withQs(scalar)[i]}, {more, s.withQs(scalar)[i]}} {
					wantLetter(t, s.closed(t, l[0], body, l[1]), nil, want, s.p, l)
				}
				got, err := seal.Open(s.x, more, want)
				wantOpened(t, got, err, body, s.p, more, want)
			}
		}
	}
}

// P10.4: any other Tag is rejected.
func TestAnyOtherTag(t *testing.T) {
	r := rand.New(rand.NewSource(363))
	for _, s := range settings(t) {
		secret := s.scalar(r)
		l := s.closed(t, secret, someBytes(r, 20), s.scalar(r))
		others := s.otherTags(secret, l)
		for n := range 70 {
			others = append(others, someBytes(r, n))
		}
		for _, tag := range others {
			z := copied(l)
			z.Tag = tag
			got, err := seal.Open(s.x, secret, z)
			wantSealed(t, got, err, s.p, secret, z)
		}
	}
}

// P10.1, P10.2, P10.4: a group as great as a group may be, with elements of 256 bytes.
func TestGreatestGroup(t *testing.T) {
	r := rand.New(rand.NewSource(364))
	s := greatest(t)
	secret, scalar, body := s.scalar(r), s.scalar(r), someBytes(r, 1000)
	l := s.closed(t, secret, body, scalar)
	wantLetter(t, l, nil, s.close(s.base(secret), body, scalar), "in the greatest group")
	s.checkClose(t, s.element(r), body, full(64))
	s.checkOpen(t, full(64), s.sealed(full(64), s.element(r), body))
	got, err := seal.Open(s.x, plus(secret, 1), l)
	wantSealed(t, got, err, "with another secret")
	other := copied(l)
	other.R = s.mul(l.R, fromBig(s.g))
	got, err = seal.Open(s.x, secret, other)
	wantSealed(t, got, err, "with another R")
	for i := range l.Tag {
		other := copied(l)
		other.Tag[i] ^= 4
		got, err := seal.Open(s.x, secret, other)
		wantSealed(t, got, err, "with another Tag")
	}
	for _, number := range s.others() {
		got, err := seal.Close(s.x, number, body, scalar)
		wantError(t, answer{letter: got}, err, api.ErrGroup, "Close in the greatest group", number)
		l.R = number
		opened, err := seal.Open(s.x, secret, l)
		wantError(t, answer{body: opened}, err, api.ErrGroup, "Open in the greatest group", number)
	}
}

// R3, and the package's own: the same call answers the same, whatever was called between.
func TestSameCallSameAnswer(t *testing.T) {
	r := rand.New(rand.NewSource(365))
	for _, s := range settings(t) {
		a := s.right(r)
		for _, c := range calls() {
			first, err := c.run(a)
			if err != nil {
				t.Fatal(err)
			}
			for range 5 {
				for _, other := range calls() {
					between := s.right(r)
					between.key, between.l.Tag = nil, nil
					other.run(between)
					other.run(s.right(r))
				}
				if got, err := c.run(a); err != nil || !sameAnswer(got, first) {
					t.Fatalf("%s: %x, then %x, %v", c.name, first, got, err)
				}
			}
		}
	}
}
