package seal_test

import (
	"bytes"
	"math/rand"

	"treenail/api"
	"treenail/group"
	"treenail/seal"
)

// arguments are those of both calls; each call takes some of them.
type arguments struct {
	x      *group.Group
	key    api.Nat
	body   []byte
	r      api.Nat
	secret api.Nat
	l      api.Letter
}

// answer is what calls answer; each call answers some of it.
type answer struct {
	letter api.Letter
	body   []byte
}

// call is a call as one of several: which arguments it takes, and what it answers.
type call struct {
	name  string
	takes []string
	run   func(a *arguments) (answer, error)
}

// calls are all calls of the layer.
func calls() []call {
	return []call{
		{"Close", []string{"x", "key", "body", "r"}, func(a *arguments) (answer, error) {
			l, err := seal.Close(a.x, a.key, a.body, a.r)
			return answer{letter: l}, err
		}},
		{"Open", []string{"x", "secret", "Body", "R", "Tag"}, func(a *arguments) (answer, error) {
			b, err := seal.Open(a.x, a.secret, a.l)
			return answer{body: b}, err
		}},
	}
}

// of are arguments of a secret, bytes and a scalar with which both calls succeed.
func (s *setting) of(secret api.Nat, body []byte, r api.Nat) *arguments {
	key := s.base(secret)
	return &arguments{s.x, key, body, r, secret, s.close(key, body, r)}
}

// right are any arguments with which both calls succeed.
func (s *setting) right(r *rand.Rand) *arguments {
	return s.of(s.scalar(r), someBytes(r, 50), s.scalar(r))
}

// want is what the chapter says of the answer of a call that succeeds.
func (s *setting) want(c call, a *arguments) answer {
	if c.name == "Close" {
		return answer{letter: s.close(a.key, a.body, a.r)}
	}
	body, _ := s.open(a.secret, a.l)
	return answer{body: body}
}

// sameAnswer tells whether two answers are told in the same limbs and bytes.
func sameAnswer(a, b answer) bool {
	return sameLetter(a.letter, b.letter) && bytes.Equal(a.body, b.body)
}

// isNothing tells whether an answer holds nothing.
func (a answer) isNothing() bool {
	return a.letter.R == nil && len(a.letter.Body) == 0 && len(a.letter.Tag) == 0 && len(a.body) == 0
}
