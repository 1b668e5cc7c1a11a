package seal_test

import (
	"math/rand"
	"testing"

	"treenail/api"
	"treenail/seal"
)

// checkClose checks a letter against what the chapter says of it.
func (s *setting) checkClose(t *testing.T, key api.Nat, body []byte, r api.Nat) {
	t.Helper()
	got, err := seal.Close(s.x, key, body, r)
	wantLetter(t, got, err, s.close(key, body, r), s.p, key, len(body), r)
}

// P10.1: keys and scalars at the edges, each with each, and bytes of all lengths.
func TestClose(t *testing.T) {
	r := rand.New(rand.NewSource(310))
	for _, s := range settings(t) {
		all := bodies(r)
		for i, key := range append(s.elements(), s.element(r)) {
			for j, scalar := range append(s.scalars(), s.scalar(r)) {
				s.checkClose(t, key, all[(i+3*j)%len(all)], scalar)
			}
		}
	}
}

// P10.1: bytes of all lengths, to any keys by any scalars.
func TestCloseOfAnyBytes(t *testing.T) {
	r := rand.New(rand.NewSource(311))
	for _, s := range settings(t) {
		for n := range 200 {
			s.checkClose(t, s.element(r), someBytes(r, n), s.scalar(r))
		}
		for _, body := range bodies(r) {
			s.checkClose(t, s.element(r), body, s.scalar(r))
		}
	}
}

// P10.1: as many bytes as there may be, one less, and one more.
func TestCloseOfMostBytes(t *testing.T) {
	r := rand.New(rand.NewSource(312))
	for _, s := range []*setting{least(t), thirtyBits(t), fourLimbs(t)} {
		body, key, scalar := someBytes(r, most+1), s.element(r), s.scalar(r)
		s.checkClose(t, key, body[:most], scalar)
		s.checkClose(t, key, body[:most-1], scalar)
		got, err := seal.Close(s.x, key, body, scalar)
		wantError(t, answer{letter: got}, err, api.ErrArg, "Close of one byte more", s.p)
	}
}

// P10.1: each scalar of the smallest group, to each edge.
func TestCloseByAllScalars(t *testing.T) {
	s := least(t)
	for scalar := range uint64(283) {
		for _, key := range append(s.elements(), s.base(api.Nat{scalar}), s.base(api.Nat{scalar * 7})) {
			s.checkClose(t, key, []byte{byte(scalar), 1, 2}, api.Nat{scalar})
		}
	}
}

// shortScalars are n scalars by which an element is one with a zero byte in front, or with several.
func (s *setting) shortScalars(of api.Nat, n int) []api.Nat {
	var l []api.Nat
	for k := uint64(2); len(l) < n; k++ {
		if s.bytesOf(s.exp(of, api.Nat{k}))[0] == 0 {
			l = append(l, api.Nat{k})
		}
	}
	return l
}

// The definition of an element's bytes: they are as many as P asks for, also where some in front are zero, be it those of K or those of R.
func TestZeroBytesInFront(t *testing.T) {
	r := rand.New(rand.NewSource(313))
	for _, s := range settings(t) {
		key := s.element(r)
		for _, scalar := range append(s.shortScalars(key, 3), s.shortScalars(fromBig(s.g), 3)...) {
			s.checkClose(t, key, []byte("zero bytes"), scalar)
			s.checkOpen(t, scalar, s.sealed(scalar, key, []byte("zero bytes")))
			s.checkOpen(t, api.Nat{3}, s.close(s.base(api.Nat{3}), []byte("zero bytes"), scalar))
		}
	}
}
