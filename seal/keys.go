package seal

import (
	"treenail/api"
	"treenail/group"
	"treenail/hash"
)

// What is digested for different ends begins with different labels, so that no digest serves for two of them.
const (
	sealLabel = "seal"
	hideLabel = "hide"
	tagLabel  = "tag"
)

// keys are what hides the bytes of one letter, and what tags them.
type keys struct {
	hide, tag []byte
}

// keysOf are the keys of a letter: they follow from its R, and from the element that only those agree on who know the scalar of R, or the secret.
func keysOf(x *group.Group, agreed, r api.Nat) keys {
	size := byteCount(x.P())
	k := hash.Parts([]byte(sealLabel), toBytes(agreed, size), toBytes(r, size))
	return keys{hash.Parts([]byte(hideLabel), k), hash.Parts([]byte(tagLabel), k)}
}

// xored is bytes xored with the keystream, which hides what is open and opens what is hidden.
func (k keys) xored(b []byte) ([]byte, error) {
	z, err := hash.Stream(k.hide, len(b))
	if err != nil {
		return nil, err
	}
	for i := range z {
		z[i] ^= b[i]
	}
	return z, nil
}

// tagOf is the tag of hidden bytes.
func (k keys) tagOf(hidden []byte) []byte { return hash.Mac(k.tag, hidden) }
