package mix

import (
	"treenail/api"
	"treenail/group"
)

// sequence is a sequence of operations in a group, of which one may fail: from then on none is done, and its error is the error of all of it. Lists and scalars are checked ahead of it: what may still fail is that something is no element.
type sequence struct {
	*group.Group
	err error
}

// do does an operation, where none has failed so far.
func (s *sequence) do(operation func() (api.Nat, error)) api.Nat {
	if s.err != nil {
		return nil
	}
	z, err := operation()
	s.err = err
	return z
}

// product is a product of elements.
func (s *sequence) product(a, b api.Nat) api.Nat {
	return s.do(func() (api.Nat, error) { return s.Mul(a, b) })
}

// quotient is a quotient of elements.
func (s *sequence) quotient(a, b api.Nat) api.Nat {
	return s.do(func() (api.Nat, error) { return s.Over(a, b) })
}

// power is a power of an element.
func (s *sequence) power(a, e api.Nat) api.Nat {
	return s.do(func() (api.Nat, error) { return s.Exp(a, e) })
}

// base is a power of G.
func (s *sequence) base(e api.Nat) api.Nat {
	return s.do(func() (api.Nat, error) { return s.Base(e) })
}

// element is an element as it is: its power to 1 is refused where it is none, and has memory of its own.
func (s *sequence) element(a api.Nat) api.Nat { return s.power(a, api.Nat{1}) }

// pair is a pair as it is.
func (s *sequence) pair(p api.Pair) api.Pair {
	return api.Pair{A: s.element(p.A), B: s.element(p.B), C: s.element(p.C)}
}

// seal is an element, sealed to a key.
func (s *sequence) seal(key, m, r api.Nat) api.Pair {
	return api.Pair{A: s.base(r), B: s.product(m, s.power(key, r)), C: api.Nat{1}}
}

// anew is a pair, sealed once more to its key.
func (s *sequence) anew(key api.Nat, p api.Pair, r api.Nat) api.Pair {
	return api.Pair{A: s.product(p.A, s.base(r)), B: s.product(p.B, s.power(key, r)), C: s.element(p.C)}
}

// strip is a pair without a share of its key, sealed to the next key by a scalar r.
func (s *sequence) strip(secret, next api.Nat, p api.Pair, r api.Nat) api.Pair {
	rest := s.quotient(p.B, s.power(p.A, secret))
	return api.Pair{A: s.element(p.A), B: s.product(rest, s.power(next, r)), C: s.product(p.C, s.base(r))}
}

// letter makes a letter of n pairs, or none where an operation failed.
func (s *sequence) letter(n int, pair func(i int) api.Pair) ([]api.Pair, error) {
	l := make([]api.Pair, n)
	for i := range n {
		l[i] = pair(i)
	}
	if s.err != nil {
		return nil, s.err
	}
	return l, nil
}
