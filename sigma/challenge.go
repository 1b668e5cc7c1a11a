package sigma

import (
	"treenail/api"
	"treenail/group"
	"treenail/hash"
)

// challenge is what a proof has to answer: a digest of all that the proof is about, as a scalar.
func challenge(x *group.Group, label string, context []byte, elements ...api.Nat) api.Nat {
	size := byteCount(x.P())
	parts := [][]byte{[]byte(label), context}
	for _, a := range elements {
		parts = append(parts, toBytes(a, size))
	}
	// A digest is no longer than an argument may be, so it is never refused.
	e, _ := x.Scalars().Reduce(fromBytes(hash.Parts(parts...)))
	return e
}
