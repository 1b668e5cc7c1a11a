package share_test

import (
	"math/rand"
	"slices"

	"treenail/api"
	"treenail/group"
	"treenail/share"
)

// arguments are those of all calls; each call takes some of them.
type arguments struct {
	x       *group.Group
	poly    []api.Nat
	n       int
	commits []api.Nat
	i       int
	s       api.Share
	places  []int
	at      int
	l       []api.Share
}

// answer is what calls answer; each call answers some of it.
type answer struct {
	shares  []api.Share
	commits []api.Nat
	number  api.Nat
}

// call is a call as one of many: which arguments it takes, and what it answers.
type call struct {
	name  string
	takes []string
	run   func(a *arguments) (answer, error)
}

// calls are all calls of the layer.
func calls() []call {
	return []call{
		{"Deal", []string{"x", "poly", "n"}, func(a *arguments) (answer, error) {
			shares, commits, err := share.Deal(a.x, a.poly, a.n)
			return answer{shares: shares, commits: commits}, err
		}},
		{"Public", []string{"x", "commits", "i"}, func(a *arguments) (answer, error) {
			number, err := share.Public(a.x, a.commits, a.i)
			return answer{number: number}, err
		}},
		{"Check", []string{"x", "commits", "s"}, func(a *arguments) (answer, error) {
			return answer{}, share.Check(a.x, a.commits, a.s)
		}},
		{"Weight", []string{"x", "places", "at"}, func(a *arguments) (answer, error) {
			number, err := share.Weight(a.x, a.places, a.at)
			return answer{number: number}, err
		}},
		{"Combine", []string{"x", "l"}, func(a *arguments) (answer, error) {
			number, err := share.Combine(a.x, a.l)
			return answer{number: number}, err
		}},
	}
}

// of are arguments of a polynomial, as many shares as n, an index and several, with which every call succeeds.
func (s *setting) of(poly []api.Nat, n, i int, places ...int) *arguments {
	return &arguments{
		s.x, poly, n, s.commitments(poly), i, s.share(poly, i), places, places[len(places)-1], s.shares(poly, places...),
	}
}

// right are any arguments with which every call succeeds.
func (s *setting) right(r *rand.Rand) *arguments {
	return s.of(s.polynomial(r, 5), 7, 4, 3, 7, 255, 1, 20, 100)
}

// want is what the chapter says of the answer of a call that succeeds.
func (s *setting) want(c call, a *arguments) answer {
	switch c.name {
	case "Deal":
		return answer{shares: s.shares(a.poly, upTo(a.n)...), commits: s.commitments(a.poly)}
	case "Public":
		return answer{number: s.public(a.commits, a.i)}
	case "Weight":
		return answer{number: s.weight(a.places, a.at)}
	case "Combine":
		return answer{number: s.combine(a.l)}
	}
	return answer{}
}

// sameAnswer tells whether two answers are told in the same limbs.
func sameAnswer(a, b answer) bool {
	return sameShares(a.shares, b.shares) && sameNumbers(a.commits, b.commits) && slices.Equal(a.number, b.number)
}

// isNothing tells whether an answer holds nothing.
func (a answer) isNothing() bool {
	return len(a.shares) == 0 && len(a.commits) == 0 && a.number == nil
}
