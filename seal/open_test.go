package seal_test

import (
	"bytes"
	"math/rand"
	"slices"
	"testing"

	"treenail/api"
	"treenail/seal"
)

// sealed is the letter of any R that a secret opens: whoever made it need not have known the scalar of R.
func (s *setting) sealed(secret, r api.Nat, body []byte) api.Letter {
	hide, tag := s.modelKeys(s.exp(r, secret), r)
	hidden := modelXored(hide, body)
	return api.Letter{R: r, Body: hidden, Tag: modelTag(tag, hidden)}
}

// checkOpen checks against what the chapter says what a secret makes of a letter whose R is an element; it tells whether it opens.
func (s *setting) checkOpen(t *testing.T, secret api.Nat, l api.Letter) bool {
	t.Helper()
	got, err := seal.Open(s.x, secret, l)
	want, opens := s.open(secret, l)
	if opens {
		wantOpened(t, got, err, want, s.p, secret, l)
	} else {
		wantSealed(t, got, err, s.p, secret, l)
	}
	return opens
}

// P10.2: Rs and secrets at the edges, each with each, and bytes of all lengths.
func TestOpen(t *testing.T) {
	r := rand.New(rand.NewSource(320))
	for _, s := range settings(t) {
		all := bodies(r)
		for i, ofG := range append(s.elements(), s.element(r)) {
			for j, secret := range append(s.scalars(), s.scalar(r)) {
				body := all[(i+3*j)%len(all)]
				got, err := seal.Open(s.x, secret, s.sealed(secret, ofG, body))
				wantOpened(t, got, err, body, s.p, secret, ofG, len(body))
			}
		}
	}
}

// P10.2: bytes of all lengths, with any secrets.
func TestOpenOfAnyBytes(t *testing.T) {
	r := rand.New(rand.NewSource(321))
	for _, s := range settings(t) {
		for n := range 200 {
			body, secret := someBytes(r, n), s.scalar(r)
			got, err := seal.Open(s.x, secret, s.sealed(secret, s.element(r), body))
			wantOpened(t, got, err, body, s.p, secret, n)
		}
		for _, body := range bodies(r) {
			secret := s.scalar(r)
			got, err := seal.Open(s.x, secret, s.sealed(secret, s.element(r), body))
			wantOpened(t, got, err, body, s.p, secret, len(body))
		}
	}
}

// P10.2: as many bytes as there may be, one less, and one more, of which each letter is tagged as it should be.
func TestOpenOfMostBytes(t *testing.T) {
	r := rand.New(rand.NewSource(322))
	for _, s := range []*setting{least(t), thirtyBits(t), fourLimbs(t)} {
		body, ofG, secret := someBytes(r, most+1), s.element(r), s.scalar(r)
		for _, n := range []int{most - 1, most} {
			l := s.sealed(secret, ofG, body[:n])
			got, err := seal.Open(s.x, secret, l)
			wantOpened(t, got, err, body[:n], s.p, secret, n)
			l.Body[n-1] ^= 1
			if got, err := seal.Open(s.x, secret, l); err != api.ErrSeal || len(got) > 0 {
				t.Fatalf("the last bit of %d bytes turned: %v", n, err)
			}
		}
		got, err := seal.Open(s.x, secret, s.sealed(secret, ofG, body))
		wantError(t, answer{body: got}, err, api.ErrArg, "Open of one byte more", s.p)
	}
}

// P10.2: R counts as a number, and the secret modulo Q: a letter opens however they are told.
func TestOpenHoweverTold(t *testing.T) {
	r := rand.New(rand.NewSource(323))
	for _, s := range settings(t) {
		for _, secret := range []api.Nat{nil, {1}, s.scalar(r), s.scalar(r)} {
			body := someBytes(r, 40)
			l := s.sealed(secret, s.element(r), body)
			told := append(s.withQs(secret), padded(secret, 1), padded(secret, 80))
			for _, other := range append(told, secret) {
				for _, zeros := range []int{0, 1, 63, 64, 65, 200} {
					z := copied(l)
					z.R = padded(l.R, zeros)
					got, err := seal.Open(s.x, other, z)
					wantOpened(t, got, err, body, s.p, other, z)
				}
			}
		}
	}
}

// otherTags are tags a bit other than one, shorter and longer ones, none, and what might be taken for one.
func (s *setting) otherTags(secret api.Nat, l api.Letter) [][]byte {
	hide, tag := s.modelKeys(s.exp(l.R, secret), l.R)
	n := len(l.Tag)
	z := [][]byte{
		nil, {}, l.Tag[:1], l.Tag[:n-1], l.Tag[1:], l.Tag[:16], append(slices.Clone(l.Tag), 0), append(slices.Clone(l.Tag), l.Tag[0]),
		append([]byte{0}, l.Tag...), slices.Concat(l.Tag, l.Tag), make([]byte, n), bytes.Repeat([]byte{255}, n), make([]byte, 1000),
		modelTag(hide, l.Body), modelTag(tag, append(slices.Clone(l.Body), 0)), modelTag(tag, append([]byte{0}, l.Body...)), digest(tag, l.Body), tag, hide,
		append(slices.Clone(l.Tag[16:]), l.Tag[:16]...),
	}
	if len(l.Body) > 0 {
		z = append(z, modelTag(tag, nil), modelTag(tag, modelXored(hide, l.Body)), modelTag(tag, l.Body[1:]))
	}
	for bit := range 8 * n {
		turned := slices.Clone(l.Tag)
		turned[bit/8] ^= 1 << (bit % 8)
		z = append(z, turned)
	}
	return z
}

// P10.2, P10.4: a letter with another Tag is rejected, be it with one bit turned, shorter, longer, or none.
func TestOpenWithAnotherTag(t *testing.T) {
	r := rand.New(rand.NewSource(324))
	for _, s := range settings(t) {
		for _, n := range []int{0, 1, 32, 50, 64} {
			secret := s.scalar(r)
			l := s.sealed(secret, s.element(r), someBytes(r, n))
			for _, tag := range s.otherTags(secret, l) {
				z := copied(l)
				z.Tag = tag
				got, err := seal.Open(s.x, secret, z)
				wantSealed(t, got, err, s.p, secret, z)
			}
		}
	}
}

// P10.2: a letter with one bit of Body turned, or with a Body cut short or made longer, is rejected.
func TestOpenWithAnotherBody(t *testing.T) {
	r := rand.New(rand.NewSource(325))
	for _, s := range settings(t) {
		for _, n := range []int{0, 1, 31, 32, 33, 64, 65} {
			secret := s.scalar(r)
			l := s.sealed(secret, s.element(r), someBytes(r, n))
			others := [][]byte{append(slices.Clone(l.Body), 0), append([]byte{0}, l.Body...), slices.Concat(l.Body, make([]byte, 64)), someBytes(r, n+1)}
			for short := range n {
				others = append(others, l.Body[:short], l.Body[short+1:])
			}
			for bit := range 8 * n {
				turned := slices.Clone(l.Body)
				turned[bit/8] ^= 1 << (bit % 8)
				others = append(others, turned)
			}
			for _, body := range others {
				z := copied(l)
				z.Body = body
				got, err := seal.Open(s.x, secret, z)
				wantSealed(t, got, err, s.p, secret, z)
			}
		}
	}
}

// P10.2: a letter with another R is rejected, even where both agree on the same element.
func TestOpenWithAnotherR(t *testing.T) {
	r := rand.New(rand.NewSource(326))
	for _, s := range settings(t) {
		for _, secret := range []api.Nat{nil, {1}, {2, 0}, s.scalar(r), full(64)} {
			l := s.sealed(secret, s.element(r), []byte("hello"))
			for _, other := range append(s.elements(), s.element(r), s.mul(l.R, fromBig(s.g)), s.exp(l.R, api.Nat{2})) {
				z := copied(l)
				z.R = other
				if opens := s.checkOpen(t, secret, z); opens != (toBig(other).Cmp(toBig(l.R)) == 0) {
					t.Fatalf("modulo %x, %x with R %x: %v", s.p, l, other, opens)
				}
			}
		}
	}
}

// P10.2: another secret opens no letter, but where both agree with R on the same element: where R is 1, or the secrets are the same modulo Q.
func TestOpenWithAnotherSecret(t *testing.T) {
	r := rand.New(rand.NewSource(327))
	for _, s := range settings(t) {
		for _, secret := range []api.Nat{nil, {1}, s.scalar(r), s.scalar(r)} {
			for _, ofG := range []api.Nat{{1}, fromBig(s.g), s.element(r)} {
				l := s.sealed(secret, ofG, []byte("hello"))
				others := append(s.scalars(), s.scalar(r), plus(secret, 1), timesPlus(secret, api.Nat{2}, nil), plus(fromBig(s.q), -1))
				for _, other := range others {
					if opens := s.checkOpen(t, other, l); opens != s.opens(ofG, secret, other) {
						t.Fatalf("modulo %x, %x sealed for %x, with %x: %v", s.p, l, secret, other, opens)
					}
				}
			}
		}
	}
}

// P10.2: each secret of the smallest group, for letters for one of them.
func TestOpenWithAllSecrets(t *testing.T) {
	s := least(t)
	l := s.sealed(api.Nat{77}, s.base(api.Nat{5}), []byte("hello"))
	for secret := range uint64(3 * 281) {
		if opens := s.checkOpen(t, api.Nat{secret}, l); opens != (secret%281 == 77) {
			t.Fatalf("%d: %v", secret, opens)
		}
	}
}
