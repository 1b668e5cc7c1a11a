package seal_test

import (
	"crypto/hmac"
	"crypto/sha256"
	"encoding/binary"

	"treenail/api"
)

// digest is what layer 5 says of Parts, by means that have nothing to do with the packages.
func digest(l ...[]byte) []byte {
	d := sha256.New()
	for _, part := range l {
		d.Write(binary.BigEndian.AppendUint64(nil, uint64(len(part))))
		d.Write(part)
	}
	return d.Sum(nil)
}

// modelKeys are what the chapter's definitions say of a letter's keys: that of the keystream, and that of the tag.
func (s *setting) modelKeys(agreed, r api.Nat) ([]byte, []byte) {
	k := digest([]byte("seal"), s.bytesOf(agreed), s.bytesOf(r))
	return digest([]byte("hide"), k), digest([]byte("tag"), k)
}

// bytesOf are the bytes of an element, as many as P asks for.
func (s *setting) bytesOf(a api.Nat) []byte {
	return toBig(a).FillBytes(make([]byte, (s.p.BitLen()+7)/8))
}

// modelXored is bytes xored with the keystream by a key.
func modelXored(key, b []byte) []byte {
	z := make([]byte, len(b))
	var piece []byte
	for i := range b {
		if i%32 == 0 {
			piece = digest(key, binary.BigEndian.AppendUint64(nil, uint64(i/32)))
		}
		z[i] = b[i] ^ piece[i%32]
	}
	return z
}

// modelTag is the tag of a body by a key.
func modelTag(key, body []byte) []byte {
	m := hmac.New(sha256.New, key)
	m.Write(body)
	return m.Sum(nil)
}

// close is what P10.1 says of a letter.
func (s *setting) close(key api.Nat, body []byte, r api.Nat) api.Letter {
	ofG := s.base(r)
	hide, tag := s.modelKeys(s.exp(key, r), ofG)
	hidden := modelXored(hide, body)
	return api.Letter{R: ofG, Body: hidden, Tag: modelTag(tag, hidden)}
}

// open is what P10.2 says of a letter whose R is an element: what is in it, and whether it opens.
func (s *setting) open(secret api.Nat, l api.Letter) ([]byte, bool) {
	hide, tag := s.modelKeys(s.exp(l.R, secret), l.R)
	if !hmac.Equal(modelTag(tag, l.Body), l.Tag) {
		return nil, false
	}
	return modelXored(hide, l.Body), true
}

// opens tells whether a secret opens letters of an R that were sealed for another secret: whether both agree on the same element.
func (s *setting) opens(r, secret, other api.Nat) bool {
	return toBig(s.exp(r, secret)).Cmp(toBig(s.exp(r, other))) == 0
}
