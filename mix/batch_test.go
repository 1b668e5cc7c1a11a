package mix_test

import (
	"math/rand"
	"slices"
	"testing"

	"treenail/api"
	"treenail/mix"
)

// wantMixed checks an answer of Mix.
func wantMixed(t *testing.T, s *setting, key api.Nat, b [][]api.Pair, perm []int, r [][]api.Nat) {
	t.Helper()
	got, err := mix.Mix(s.x, key, b, perm, r)
	wantBatch(t, got, err, s.mix(key, b, perm, r), "Mix", s.p, key, b, perm, r)
}

// P7.4: batches of all sizes, of letters of all lengths.
func TestMixShapes(t *testing.T) {
	r := rand.New(rand.NewSource(80))
	for _, s := range settings(t) {
		for _, n := range []int{1, 2, 3, 7} {
			for _, parts := range []int{1, 2, 5, api.MaxParts} {
				wantMixed(t, s, s.element(r), s.anyBatch(r, n, parts), r.Perm(n), s.anyLists(r, n, parts))
			}
		}
	}
}

// P7.4: the greatest batches.
func TestMixGreatest(t *testing.T) {
	r := rand.New(rand.NewSource(81))
	s := thirtyBits(t)
	wantMixed(t, s, s.element(r), s.anyBatch(r, 255, 2), r.Perm(255), s.anyLists(r, 255, 2))
	wantMixed(t, s, s.element(r), s.anyBatch(r, api.MaxBatch, 1), r.Perm(api.MaxBatch), s.anyLists(r, api.MaxBatch, 1))
	s = least(t)
	wantMixed(t, s, s.element(r), s.anyBatch(r, api.MaxBatch, api.MaxParts), r.Perm(api.MaxBatch), s.anyLists(r, api.MaxBatch, api.MaxParts))
}

// permutations are all permutations of the numbers below n.
func permutations(n int) [][]int {
	if n == 0 {
		return [][]int{{}}
	}
	var l [][]int
	for _, p := range permutations(n - 1) {
		for i := range n {
			l = append(l, slices.Insert(slices.Clone(p), i, n-1))
		}
	}
	return l
}

// P7.4: all permutations of few letters: letter i of the answer is letter perm[i] of the batch, not the other way round, with the scalars of place i.
func TestMixPermutations(t *testing.T) {
	r := rand.New(rand.NewSource(82))
	s := chapters(t)
	for n := 1; n <= 5; n++ {
		b, lists, key := s.anyBatch(r, n, 2), s.anyLists(r, n, 2), s.element(r)
		for _, perm := range permutations(n) {
			wantMixed(t, s, key, b, perm, lists)
			got, err := mix.Mix(s.x, key, b, perm, lists)
			for i := range got {
				l, errAnew := mix.Anew(s.x, key, b[perm[i]], lists[i])
				if err != nil || errAnew != nil || !sameLetter(got[i], l) {
					t.Fatalf("letter %d of Mix by %d is %x, not %x; %v, %v", i, perm, got[i], l, err, errAnew)
				}
			}
		}
	}
}

// P7.4: the same letter may be in a batch several times.
func TestMixSameLetters(t *testing.T) {
	r := rand.New(rand.NewSource(83))
	s := thirtyBits(t)
	l, list := s.anyLetter(r, 3), s.anyScalars(r, 3)
	wantMixed(t, s, s.element(r), [][]api.Pair{l, l, l}, []int{2, 0, 1}, [][]api.Nat{list, list, list})
	wantMixed(t, s, l[0].A, [][]api.Pair{l, l, l}, []int{1, 0, 2}, s.anyLists(r, 3, 3))
}

// P7.4: a batch without letters mixes to one, with any key that is an element.
func TestMixNothing(t *testing.T) {
	for _, s := range settings(t) {
		for _, key := range s.elements() {
			for _, none := range [][][]api.Pair{nil, {}} {
				got, err := mix.Mix(s.x, key, none, nil, nil)
				wantBatch(t, got, err, nil, "Mix of nothing", s.p, key)
				got, err = mix.Mix(s.x, key, none, []int{}, [][]api.Nat{})
				wantBatch(t, got, err, nil, "Mix of nothing", s.p, key)
			}
		}
		for _, key := range s.others() {
			got, err := mix.Mix(s.x, key, nil, nil, nil)
			wantError(t, got, err, api.ErrGroup, "Mix of nothing", s.p, key)
		}
	}
}

// P7.1, P7.4: a batch of nothing with a permutation or scalars of something, whether or not the key is an element.
func TestMixNothingWrong(t *testing.T) {
	s := chapters(t)
	for _, key := range []api.Nat{{4}, {2}, nil} {
		for _, perm := range [][]int{{0}, {-1}, {1}, {0, 1}} {
			got, err := mix.Mix(s.x, key, nil, perm, nil)
			wantError(t, got, err, api.ErrArg, "Mix of nothing", key, perm)
		}
		for _, lists := range [][][]api.Nat{{nil}, {{{1}}}, {nil, nil}, {{full(65)}}} {
			got, err := mix.Mix(s.x, key, nil, nil, lists)
			wantError(t, got, err, api.ErrArg, "Mix of nothing", key, lists)
		}
		got, err := mix.Mix(nil, key, nil, nil, nil)
		wantError(t, got, err, api.ErrArg, "Mix of nothing, in no group", key)
	}
}

// P7.1, P7.4: batches that are none.
func TestMixWrongBatches(t *testing.T) {
	r := rand.New(rand.NewSource(84))
	s := least(t)
	refused := func(b [][]api.Pair, lists [][]api.Nat) {
		t.Helper()
		got, err := mix.Mix(s.x, api.Nat{4}, b, r.Perm(len(b)), lists)
		wantError(t, got, err, api.ErrArg, "Mix", len(b), len(lists))
	}
	for _, n := range []int{257, 258, 1000} {
		for _, parts := range []int{0, 1, 2} {
			refused(s.anyBatch(r, n, parts), s.anyLists(r, n, parts))
		}
	}
	for _, parts := range wrongParts() {
		for _, n := range []int{1, 2, 256} {
			refused(s.anyBatch(r, n, parts), s.anyLists(r, n, parts))
		}
	}
	for _, lengths := range [][]int{{1, 2}, {2, 1}, {2, 2, 1}, {1, 2, 2}, {2, 3, 2}, {2, 0, 2}, {0, 1}, {1, 0}, {32, 33}, {33, 32}} {
		var b [][]api.Pair
		var lists [][]api.Nat
		for _, n := range lengths {
			b, lists = append(b, s.anyLetter(r, n)), append(lists, s.anyScalars(r, n))
		}
		refused(b, lists)
		// Lists that are all as long as the first letter don't help.
		refused(b, s.anyLists(r, len(b), lengths[0]))
	}
}

// P7.1, P7.4: permutations that are none: too short, too long, with a number twice, a negative one, one that is too great.
func TestMixWrongPermutations(t *testing.T) {
	r := rand.New(rand.NewSource(85))
	s := least(t)
	b, lists := s.anyBatch(r, 3, 2), s.anyLists(r, 3, 2)
	for _, perm := range [][]int{
		nil, {}, {0}, {0, 1}, {1, 2}, {0, 1, 2, 3}, {0, 1, 2, 0}, {0, 1, 2, -1}, {3, 0, 1, 2},
		{0, 0, 1}, {0, 1, 0}, {1, 2, 2}, {1, 1, 1}, {0, 0, 0}, {2, 2, 0},
		{-1, 0, 1}, {0, 1, -1}, {0, -2, 1}, {-1 << 63, 0, 1}, {3, 0, 1}, {0, 1, 3}, {1, 2, 3}, {0, 1, 1<<63 - 1}, {0, 1, 1 << 32}, {0, 1, 258},
	} {
		got, err := mix.Mix(s.x, api.Nat{4}, b, perm, lists)
		wantError(t, got, err, api.ErrArg, "Mix", perm)
	}
	most := s.anyBatch(r, 256, 1)
	twice := r.Perm(256)
	twice[slices.Index(twice, 255)] = 0
	got, err := mix.Mix(s.x, api.Nat{4}, most, twice, s.anyLists(r, 256, 1))
	wantError(t, got, err, api.ErrArg, "Mix", twice)
}

// P7.1, P7.4: lists of scalars that are too few, too many, too short, too long.
func TestMixWrongLists(t *testing.T) {
	r := rand.New(rand.NewSource(86))
	s := least(t)
	b := s.anyBatch(r, 3, 2)
	for _, lengths := range [][]int{
		{}, {2}, {2, 2}, {2, 2, 2, 2}, {2, 2, 2, 0}, {1, 2, 2}, {2, 2, 1}, {2, 1, 2}, {2, 3, 2}, {3, 2, 2}, {2, 2, 3}, {0, 2, 2}, {2, 2, 0},
		{1, 1, 1}, {3, 3, 3}, {0, 0, 0}, {1, 3, 2}, {6}, {3, 3},
	} {
		var lists [][]api.Nat
		for _, n := range lengths {
			lists = append(lists, s.anyScalars(r, n))
		}
		got, err := mix.Mix(s.x, api.Nat{4}, b, []int{2, 0, 1}, lists)
		wantError(t, got, err, api.ErrArg, "Mix", lengths)
	}
}

// P7.1, P7.4: in every place of a batch a number that is no element, or a scalar that is too long.
func TestMixWrongAnywhere(t *testing.T) {
	r := rand.New(rand.NewSource(87))
	for _, s := range settings(t) {
		for i := range 3 {
			for j := range 2 {
				for _, wrong := range s.others() {
					for place := range 3 {
						b := s.anyBatch(r, 3, 2)
						*numbersOf(&b[i][j])[place] = wrong
						got, err := mix.Mix(s.x, api.Nat{4}, b, r.Perm(3), s.anyLists(r, 3, 2))
						wantError(t, got, err, api.ErrGroup, "Mix", s.p, i, j, place, wrong)
					}
				}
				for _, long := range longScalars() {
					lists := s.anyLists(r, 3, 2)
					lists[i][j] = long
					got, err := mix.Mix(s.x, api.Nat{4}, s.anyBatch(r, 3, 2), r.Perm(3), lists)
					wantError(t, got, err, api.ErrLong, "Mix", s.p, i, j, long)
				}
			}
		}
		for _, key := range s.others() {
			got, err := mix.Mix(s.x, key, s.anyBatch(r, 2, 1), []int{1, 0}, s.anyLists(r, 2, 1))
			wantError(t, got, err, api.ErrGroup, "Mix", s.p, key)
		}
	}
}

// numbersOf are the three numbers of a pair.
func numbersOf(p *api.Pair) []*api.Nat { return []*api.Nat{&p.A, &p.B, &p.C} }
