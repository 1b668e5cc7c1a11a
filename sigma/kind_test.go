package sigma_test

import (
	"treenail/api"
	"treenail/group"
	"treenail/sigma"
)

// kind is one of the two kinds of proofs of one power: Know's and Sign's.
type kind struct {
	name, label string
	make        func(x *group.Group, context []byte, s, k api.Nat) (api.Proof, error)
	check       func(x *group.Group, context []byte, y api.Nat, p api.Proof) error
}

// kinds are both.
func kinds() []kind {
	return []kind{{"Know", "know", sigma.Know, sigma.Knows}, {"Sign", "sign", sigma.Sign, sigma.Signed}}
}

// change is a proof that isn't the one that was made; some are right all the same.
type change struct {
	name string
	to   api.Proof
}

// rightChanges are other ways to tell a proof: they hold, as it does.
func (s *setting) rightChanges(p api.Proof) []change {
	l := []change{
		{"the same", p},
		{"zeros behind E", api.Proof{E: padded(p.E, 1), Z: p.Z}},
		{"many zeros behind E", api.Proof{E: padded(p.E, 100), Z: p.Z}},
		{"zeros behind Z", api.Proof{E: p.E, Z: padded(p.Z, 1)}},
		{"many zeros behind both", api.Proof{E: padded(p.E, 64), Z: padded(p.Z, 100)}},
	}
	for _, z := range s.withQs(p.Z) {
		l = append(l, change{"Qs more in Z", api.Proof{E: p.E, Z: z}})
	}
	return l
}

// tooGreat are proofs whose E is the challenge but for Qs: none holds, since E isn't less than Q.
func (s *setting) tooGreat(p api.Proof) []change {
	var l []change
	for _, e := range s.withQs(p.E) {
		l = append(l, change{"Qs more in E", api.Proof{E: e, Z: p.Z}})
	}
	return l
}

// wrongChanges are proofs with another E or Z: of a great group, none holds.
func (s *setting) wrongChanges(p api.Proof) []change {
	q, more := fromBig(s.q), plus(p.E, 1)
	l := []change{
		{"E one more", api.Proof{E: more, Z: p.Z}},
		{"Z one more", api.Proof{E: p.E, Z: plus(p.Z, 1)}},
		{"E and Z one more", api.Proof{E: more, Z: plus(p.Z, 1)}},
		{"E one less", api.Proof{E: plus(timesPlus(q, api.Nat{1}, p.E), -1), Z: p.Z}},
		{"Z one less", api.Proof{E: p.E, Z: plus(timesPlus(q, api.Nat{1}, p.Z), -1)}},
		{"another limb behind E", api.Proof{E: append(padded(p.E, 1), 1), Z: p.Z}},
		{"another limb behind Z", api.Proof{E: p.E, Z: append(padded(p.Z, 1), 1)}},
		{"E of 64 limbs", api.Proof{E: full(64), Z: p.Z}},
		{"Z of 64 limbs", api.Proof{E: p.E, Z: full(64)}},
		{"E none", api.Proof{Z: p.Z}},
		{"Q for E", api.Proof{E: q, Z: p.Z}},
		{"Q less one for E", api.Proof{E: plus(q, -1), Z: p.Z}},
	}
	if len(p.E) > 0 {
		l = append(l, change{"E one less", api.Proof{E: plus(p.E, -1), Z: p.Z}})
	}
	if len(p.Z) > 0 {
		l = append(l, change{"Z one less", api.Proof{E: p.E, Z: plus(p.Z, -1)}}, change{"Z none", api.Proof{E: p.E}})
	}
	return l
}

// otherContexts are contexts a bit other than one.
func otherContexts(context []byte) [][]byte {
	l := [][]byte{append([]byte{0}, context...), append(append([]byte(nil), context...), 0), []byte("another")}
	if len(context) > 0 {
		first, last := append([]byte(nil), context...), append([]byte(nil), context...)
		first[0] ^= 1
		last[len(last)-1] ^= 128
		l = append(l, nil, first, last, context[1:], context[:len(context)-1])
	}
	return l
}
