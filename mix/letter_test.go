package mix_test

import (
	"math/rand"
	"testing"

	"treenail/api"
	"treenail/mix"
)

// P7.2: every key and element at the edges, with every scalar there.
func TestSealEdges(t *testing.T) {
	for _, s := range settings(t) {
		for _, key := range s.elements() {
			for _, m := range s.elements() {
				for _, r := range s.scalars() {
					l, err := mix.Seal(s.x, key, []api.Nat{m}, []api.Nat{r})
					wantLetter(t, l, err, s.seal(key, []api.Nat{m}, []api.Nat{r}), "Seal", s.p, key, m, r)
				}
			}
		}
	}
}

// P7.2: letters of all lengths: each pair has an element and a scalar of its own.
func TestSealLengths(t *testing.T) {
	r := rand.New(rand.NewSource(70))
	for _, s := range settings(t) {
		for _, n := range parts() {
			key, m, scalars := s.element(r), s.anyElements(r, n), s.anyScalars(r, n)
			l, err := mix.Seal(s.x, key, m, scalars)
			wantLetter(t, l, err, s.seal(key, m, scalars), "Seal", s.p, key, m, scalars)
		}
	}
}

// P7.3: every key and pair at the edges, with every scalar there.
func TestAnewEdges(t *testing.T) {
	for _, s := range settings(t) {
		edges := s.elements()
		for i, key := range edges {
			for j, a := range edges {
				p := api.Pair{A: a, B: edges[(i+j)%len(edges)], C: edges[(2*i+j)%len(edges)]}
				for _, r := range s.scalars() {
					l, err := mix.Anew(s.x, key, []api.Pair{p}, []api.Nat{r})
					wantLetter(t, l, err, s.anew(key, []api.Pair{p}, []api.Nat{r}), "Anew", s.p, key, p, r)
				}
			}
		}
	}
}

// P7.3: letters of all lengths, also such as were never sealed.
func TestAnewLengths(t *testing.T) {
	r := rand.New(rand.NewSource(71))
	for _, s := range settings(t) {
		for _, n := range parts() {
			key, l, scalars := s.element(r), s.anyLetter(r, n), s.anyScalars(r, n)
			got, err := mix.Anew(s.x, key, l, scalars)
			wantLetter(t, got, err, s.anew(key, l, scalars), "Anew", s.p, key, l, scalars)
		}
	}
}

// P7.3: with scalars 0 and Q a letter stays as it is; sealed anew twice, it is as with the sum of the scalars.
func TestAnewTwice(t *testing.T) {
	r := rand.New(rand.NewSource(72))
	for _, s := range settings(t) {
		key, l := s.element(r), s.anyLetter(r, 2)
		one, two := s.scalar(r), s.scalar(r)
		same, err := mix.Anew(s.x, key, l, []api.Nat{nil, fromBig(s.q)})
		wantLetter(t, same, err, s.anew(key, l, make([]api.Nat, 2)), "Anew by nothing")
		first, err := mix.Anew(s.x, key, l, []api.Nat{one, two})
		wantLetter(t, first, err, s.anew(key, l, []api.Nat{one, two}), "Anew")
		second, err := mix.Anew(s.x, key, first, []api.Nat{two, two})
		wantLetter(t, second, err, s.anew(key, l, []api.Nat{s.sum(one, two), s.sum(two, two)}), "Anew, twice")
	}
}

// P7.5: every secret, key and scalar at the edges.
func TestStripEdges(t *testing.T) {
	for _, s := range settings(t) {
		edges := s.elements()
		for i, secret := range s.scalars() {
			for j, r := range s.scalars() {
				p := api.Pair{A: edges[(i+j)%len(edges)], B: edges[(i+2*j)%len(edges)], C: edges[(2*i+j)%len(edges)]}
				next := edges[(3*i+j)%len(edges)]
				l, err := mix.Strip(s.x, secret, next, []api.Pair{p}, []api.Nat{r})
				wantLetter(t, l, err, s.strip(secret, next, []api.Pair{p}, []api.Nat{r}), "Strip", s.p, secret, next, p, r)
			}
		}
	}
}

// P7.5: letters of all lengths, also such as were never sealed.
func TestStripLengths(t *testing.T) {
	r := rand.New(rand.NewSource(73))
	for _, s := range settings(t) {
		for _, n := range parts() {
			secret, next, l, scalars := s.scalar(r), s.element(r), s.anyLetter(r, n), s.anyScalars(r, n)
			got, err := mix.Strip(s.x, secret, next, l, scalars)
			wantLetter(t, got, err, s.strip(secret, next, l, scalars), "Strip", s.p, secret, next, l, scalars)
		}
	}
}

// P7.5: with next 1 and scalars 0 a share is taken off, and nothing is put on: A and C stay. With a secret of 0 not even that.
func TestStripAlone(t *testing.T) {
	r := rand.New(rand.NewSource(74))
	for _, s := range settings(t) {
		for _, n := range parts() {
			secret, l := s.scalar(r), s.anyLetter(r, n)
			for _, zero := range []api.Nat{nil, {0}, fromBig(s.q)} {
				want := s.anew(api.Nat{1}, l, make([]api.Nat, n))
				got, err := mix.Strip(s.x, zero, api.Nat{1}, l, several(n, func() api.Nat { return zero }))
				wantLetter(t, got, err, want, "Strip by nothing", s.p, l)
				for i, p := range l {
					want[i].B = s.over(p.B, s.exp(p.A, secret))
				}
				got, err = mix.Strip(s.x, secret, api.Nat{1}, l, several(n, func() api.Nat { return zero }))
				wantLetter(t, got, err, want, "Strip by a share", s.p, secret, l)
			}
		}
	}
}

// P7.6: Turn and Open of letters of all lengths, told without zeros at the end whatever they were told with.
func TestTurnAndOpen(t *testing.T) {
	r := rand.New(rand.NewSource(75))
	for _, s := range settings(t) {
		for _, n := range parts() {
			l := s.anyLetter(r, n)
			wantTurned, wantOpened := make([]api.Pair, n), make([]api.Nat, n)
			for i, p := range l {
				wantTurned[i] = api.Pair{A: fromBig(toBig(p.C)), B: fromBig(toBig(p.B)), C: api.Nat{1}}
				wantOpened[i] = fromBig(toBig(p.B))
			}
			turned, err := mix.Turn(s.x, l)
			wantLetter(t, turned, err, wantTurned, "Turn", s.p, l)
			opened, err := mix.Open(s.x, l)
			if err != nil || !sameNumbers(opened, wantOpened) {
				t.Fatalf("Open(%x) is %x, %v", l, opened, err)
			}
		}
	}
}

// P7.2, P7.3, P7.5, P7.6: all calls in the greatest group, of 2048 bits.
func TestGreatest(t *testing.T) {
	r := rand.New(rand.NewSource(76))
	s := greatest(t)
	key, next, secret := s.element(r), s.element(r), s.scalar(r)
	m, scalars := s.anyElements(r, 2), []api.Nat{s.scalar(r), full(64)}
	l, err := mix.Seal(s.x, key, m, scalars)
	wantLetter(t, l, err, s.seal(key, m, scalars), "Seal")
	b, err := mix.Mix(s.x, key, [][]api.Pair{l, l}, []int{1, 0}, [][]api.Nat{scalars, {nil, {1}}})
	wantBatch(t, b, err, s.mix(key, [][]api.Pair{l, l}, []int{1, 0}, [][]api.Nat{scalars, {nil, {1}}}), "Mix")
	z, err := mix.Strip(s.x, secret, next, b[1], scalars)
	wantLetter(t, z, err, s.strip(secret, next, b[1], scalars), "Strip")
	opened, err := mix.Open(s.x, z)
	if err != nil || !sameNumbers(opened, []api.Nat{z[0].B, z[1].B}) {
		t.Errorf("Open is %x, %v", opened, err)
	}
	turned, err := mix.Turn(s.x, z)
	wantLetter(t, turned, err, []api.Pair{{A: z[0].C, B: z[0].B, C: api.Nat{1}}, {A: z[1].C, B: z[1].B, C: api.Nat{1}}}, "Turn")
}
