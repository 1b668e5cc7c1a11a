package prime_test

import (
	"slices"
	"sync"
	"testing"

	"treenail/api"
	"treenail/prime"
)

// roomy is a number with room behind it that holds something: what a call must not write to.
func roomy(a api.Nat) api.Nat {
	b := append(slices.Clone(a), 77, 78, 79)
	return b[:len(a)]
}

// roomyChain is a chain of such numbers.
func roomyChain(chain []api.Step) []api.Step {
	l := make([]api.Step, len(chain), len(chain)+2)
	for i, s := range chain {
		l[i] = api.Step{P: roomy(s.P), Q: roomy(s.Q), A: roomy(s.A)}
	}
	return l
}

// everything is all limbs of a chain, with the room behind them, in one list.
func everything(chain []api.Step) api.Nat {
	var l api.Nat
	for _, s := range chain {
		for _, a := range []api.Nat{s.P, s.Q, s.A} {
			l = append(l, a[:cap(a)]...)
		}
	}
	return l
}

// overwrite spoils a list and the room behind it.
func overwrite(a api.Nat) {
	a = a[:cap(a)]
	for i := range a {
		a[i] = 0xdead
	}
}

// chains are proofs of all kinds, good ones and others.
func chains(t *testing.T) [][]api.Step {
	good := greatChain(t, limbs32)
	tail := good[4:]
	return [][]api.Step{
		nil, good, tail, longChain(t, 64), longChain(t, 65), greatChain(t, limbs33), proof(step(3, 2, 2)), proof(step(4, 2, 2)),
		changed(tail, 0, func(s *api.Step) { s.P = padded(s.P, 2) }),
		changed(tail, 1, func(s *api.Step) { s.Q = padded(s.Q, 2) }),
		changed(tail, 1, func(s *api.Step) { s.A = full(64) }),
		changed(tail, 2, func(s *api.Step) { s.A = full(65) }),
		proof(step(100547, 50273, 100546)), proof(step(100549, 50273, 2)),
	}
}

// R2: arguments stay as they were, also when the answer is written to.
func TestArgumentsStay(t *testing.T) {
	for _, chain := range chains(t) {
		argument := roomyChain(chain)
		was := everything(argument)
		answer, _ := prime.Check(argument)
		overwrite(answer)
		if !slices.Equal(everything(argument), was) {
			t.Fatalf("Check(%x) has changed its argument, or its answer is part of it", chain)
		}
	}
}

// R2: whoever writes to an argument later changes neither the answer given nor one to come.
func TestArgumentsAreNotKept(t *testing.T) {
	for _, chain := range chains(t) {
		argument := roomyChain(chain)
		answer, err := prime.Check(argument)
		before := slices.Clone(answer)
		for _, s := range argument {
			overwrite(s.P)
			overwrite(s.Q)
			overwrite(s.A)
		}
		clear(argument)
		again, errAgain := prime.Check(copied(chain))
		if !slices.Equal(answer, before) || !slices.Equal(again, before) || (err == nil) != (errAgain == nil) {
			t.Fatalf("Check(%x): an argument is kept", chain)
		}
	}
}

// R2: one list as several numbers, and one Spot for each call.
func TestOneListTwice(t *testing.T) {
	two := roomy(api.Nat{2})
	wantProved(t, proof(api.Step{P: api.Nat{3}, Q: two, A: two}))
	seven := roomy(api.Nat{7})
	wantProved(t, proof(api.Step{P: api.Nat{43}, Q: seven, A: two}, api.Step{P: seven, Q: api.Nat{3}, A: api.Nat{3}}))
	wantSpot(t, proof(api.Step{P: seven, Q: seven, A: seven}), 0, api.ErrProof)
	_, first := prime.Check(proof(step(4, 2, 2)))
	first.(*api.Spot).At, first.(*api.Spot).Err = 9, nil
	wantSpot(t, proof(step(4, 2, 2)), 0, api.ErrEven)
}

// R2: many callers at once get what one alone gets, all with the same chain.
func TestManyAtOnce(t *testing.T) {
	chain := greatChain(t, limbs32)[3:]
	var all sync.WaitGroup
	for range 16 {
		all.Go(func() {
			for range 10 {
				if got, err := prime.Check(chain); err != nil || !slices.Equal(got, chain[0].P) {
					t.Errorf("many at once: %x, %v", got, err)
				}
			}
		})
	}
	all.Wait()
}
