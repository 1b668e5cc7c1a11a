package sigma_test

import (
	"testing"

	"treenail/api"
	"treenail/sigma"
)

// The examples of the chapter.
func TestExamples(t *testing.T) {
	s := thirtyBits(t)
	c, y := []byte("c"), api.Nat{1024}
	p, err := sigma.Know(s.x, c, api.Nat{5}, api.Nat{9})
	if err != nil || sigma.Knows(s.x, c, y, p) != nil {
		t.Error(p, err)
	}
	p.Z[0]++
	if err := sigma.Knows(s.x, c, y, p); err != api.ErrProof {
		t.Error("Knows with Z one more:", err)
	}
	p.Z[0]--
	if got, err := sigma.Know(nil, c, api.Nat{5}, api.Nat{9}); err != api.ErrArg || got.E != nil || got.Z != nil {
		t.Error("Know in no group:", got, err)
	}
	if err := sigma.Knows(s.x, c, api.Nat{0}, p); err != api.ErrGroup {
		t.Error("Knows with y 0:", err)
	}
}

// proofOf is a proof of small numbers.
func proofOf(e, z uint64) api.Proof { return api.Proof{E: api.Nat{e}, Z: api.Nat{z}} }

// P8.2, P8.3, P8.4: proofs that were worked out elsewhere, in a group of 3 bytes and in one of 4; Equal's element is 9.
func TestKnownProofs(t *testing.T) {
	less, more := small(t, 100547, 50273, api.Nat{4}), thirtyBits(t)
	none := func(e uint64) api.Proof { return api.Proof{E: api.Nat{e}} }
	for _, k := range []struct {
		s                 *setting
		context           string
		secret, k         api.Nat
		know, equal, sign api.Proof
	}{
		{less, "c", api.Nat{5}, api.Nat{9}, proofOf(15694, 28206), proofOf(5098, 25499), proofOf(225, 1134)},
		{more, "c", api.Nat{5}, api.Nat{9}, proofOf(274828674, 31237902), proofOf(35134552, 175672769), proofOf(130340380, 204066750)},
		{less, "", nil, nil, none(25143), none(48439), none(3703)},
		{more, "", nil, nil, none(211734272), none(49499194), none(323526862)},
		{less, "a context", api.Nat{50278}, api.Nat{0, 1}, proofOf(13708, 42101), proofOf(35326, 49645), proofOf(36245, 3967)},
		{more, "a context", api.Nat{447635164}, api.Nat{0, 1}, proofOf(231328551, 313178413), proofOf(25068295, 177147451), proofOf(153151460, 369928117)},
	} {
		context, y, d := []byte(k.context), k.s.base(k.secret), k.s.exp(api.Nat{9}, k.secret)
		got, err := sigma.Know(k.s.x, context, k.secret, k.k)
		wantProof(t, got, err, k.know, "Know", k.s.p, k.context)
		wantVerdict(t, sigma.Knows(k.s.x, context, y, k.know), true, "Knows", k.s.p, k.context)
		got, err = sigma.Equal(k.s.x, context, api.Nat{9}, k.secret, k.k)
		wantProof(t, got, err, k.equal, "Equal", k.s.p, k.context)
		wantVerdict(t, sigma.Equals(k.s.x, context, y, api.Nat{9}, d, k.equal), true, "Equals", k.s.p, k.context)
		got, err = sigma.Sign(k.s.x, context, k.secret, k.k)
		wantProof(t, got, err, k.sign, "Sign", k.s.p, k.context)
		wantVerdict(t, sigma.Signed(k.s.x, context, y, k.sign), true, "Signed", k.s.p, k.context)
	}
}
