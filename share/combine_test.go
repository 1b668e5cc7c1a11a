package share_test

import (
	"math/rand"
	"slices"
	"testing"

	"treenail/api"
	"treenail/share"
)

// P9.4: the weights of places at the edges.
func TestWeight(t *testing.T) {
	r := rand.New(rand.NewSource(220))
	for _, s := range settings(t) {
		for _, places := range listsOfPlaces(r) {
			for k, i := range places {
				// Of many places, some are enough: the first ones, the last ones, and a few between.
				if k > 2 && k < len(places)-3 && r.Intn(40) > 0 {
					continue
				}
				got, err := share.Weight(s.x, places, i)
				wantNumber(t, got, err, s.weight(places, i), "Weight", s.p, places, i)
			}
		}
	}
}

// P9.4: the weights of all pairs of places, in a group whose Q is above them by little.
func TestWeightsOfPairs(t *testing.T) {
	s := least(t)
	for i := 1; i <= 255; i++ {
		for j := 1; j <= 255; j += 2 {
			if i != j {
				got, err := share.Weight(s.x, []int{j, i}, i)
				wantNumber(t, got, err, s.weight([]int{i, j}, i), "Weight", i, j)
			}
		}
	}
}

// P9.4: it doesn't matter in what order places and shares are told.
func TestOrderDoesNotMatter(t *testing.T) {
	r := rand.New(rand.NewSource(221))
	for _, s := range settings(t) {
		places := someOf(r, 7)
		l := s.shares(s.polynomial(r, 7), places...)
		want, err := share.Combine(s.x, l)
		if err != nil {
			t.Fatal(err)
		}
		for range 20 {
			r.Shuffle(len(l), func(a, b int) { l[a], l[b] = l[b], l[a] })
			got, err := share.Combine(s.x, l)
			wantNumber(t, got, err, want, "Combine in another order", s.p, l)
			weight, err := share.Weight(s.x, placesOf(l), places[3])
			wantNumber(t, weight, err, s.weight(places, places[3]), "Weight in another order", s.p, l)
		}
	}
}

// refusedWeight checks that places are refused by Weight, and shares with these indices by Combine.
func refusedWeight(t *testing.T, s *setting, places []int, i int) {
	t.Helper()
	if got, err := share.Weight(s.x, places, i); got != nil || err != api.ErrArg {
		t.Fatalf("Weight %d, %d: %x, %v", places, i, got, err)
	}
	l := make([]api.Share, len(places))
	for k, place := range places {
		l[k] = api.Share{I: place, V: api.Nat{uint64(k)}}
	}
	if got, err := share.Combine(s.x, l); got != nil || err != api.ErrArg {
		t.Fatalf("Combine %d: %x, %v", places, got, err)
	}
}

// P9.4, P9.1: no places, and too many of them.
func TestWrongNumbersOfPlaces(t *testing.T) {
	for _, s := range settings(t) {
		for _, places := range [][]int{nil, {}, upTo(256), append(upTo(255), 1), append(upTo(255), 255), upTo(1000), slices.Repeat([]int{1}, 256)} {
			for _, i := range []int{1, 0, 255} {
				refusedWeight(t, s, places, i)
			}
		}
	}
}

// P9.4, P9.1: places that are no indices, in each place of lists of several lengths, and asked for too.
func TestWrongPlaces(t *testing.T) {
	r := rand.New(rand.NewSource(222))
	for _, s := range settings(t) {
		for _, wrong := range wrongIndices() {
			for _, n := range []int{1, 2, 3, 10, 255} {
				for _, at := range []int{0, n / 2, n - 1} {
					places := someOf(r, n)
					places[at] = wrong
					for _, i := range []int{wrong, places[0], places[n-1]} {
						refusedWeight(t, s, places, i)
					}
				}
			}
		}
	}
}

// P9.4, P9.1: two places that are equal, wherever they are.
func TestEqualPlaces(t *testing.T) {
	r := rand.New(rand.NewSource(223))
	for _, s := range settings(t) {
		for _, n := range []int{2, 3, 4, 8} {
			for a := range n {
				for b := range a {
					places := someOf(r, n)
					places[a] = places[b]
					for _, i := range places {
						refusedWeight(t, s, places, i)
					}
				}
			}
		}
		places := someOf(r, 255)
		places[0] = places[254]
		refusedWeight(t, s, places, places[100])
	}
}

// P9.4, P9.1: an index that doesn't occur among the places, though each of them may be.
func TestPlaceDoesNotOccur(t *testing.T) {
	r := rand.New(rand.NewSource(224))
	for _, s := range settings(t) {
		for _, n := range []int{1, 2, 5, 254} {
			places := someOf(r, n)
			for _, i := range append(wrongIndices(), upTo(255)...) {
				if got, err := share.Weight(s.x, places, i); !slices.Contains(places, i) && (got != nil || err != api.ErrArg) {
					t.Fatalf("Weight %d, %d: %x, %v", places, i, got, err)
				}
			}
		}
		for _, i := range wrongIndices() {
			if got, err := share.Weight(s.x, upTo(255), i); got != nil || err != api.ErrArg {
				t.Fatalf("Weight of all, %d: %x, %v", i, got, err)
			}
		}
	}
}

// P9.4: values at the edges, with places at the edges, whatever polynomial they may be of.
func TestCombine(t *testing.T) {
	r := rand.New(rand.NewSource(225))
	for _, s := range settings(t) {
		scalars := append(s.scalars(), s.scalar(r), s.scalar(r))
		for _, places := range listsOfPlaces(r) {
			if len(places) > 100 && s.q.BitLen() > 100 {
				continue
			}
			l := make([]api.Share, len(places))
			for k, i := range places {
				l[k] = api.Share{I: i, V: scalars[r.Intn(len(scalars))]}
			}
			got, err := share.Combine(s.x, l)
			wantNumber(t, got, err, s.combine(l), "Combine", s.p, l)
		}
		for _, v := range scalars {
			got, err := share.Combine(s.x, []api.Share{{I: 1 + r.Intn(255), V: v}})
			wantNumber(t, got, err, s.reduced(v), "Combine of one share", s.p, v)
		}
	}
}

// P9.4: Combine is the sum of the values times what Weight itself answers.
func TestCombineIsOfWeights(t *testing.T) {
	r := rand.New(rand.NewSource(226))
	for _, s := range settings(t) {
		for range 10 {
			places := someOf(r, 1+r.Intn(12))
			want := api.Nat{}
			l := make([]api.Share, len(places))
			for k, i := range places {
				l[k] = api.Share{I: i, V: s.scalar(r)}
				weight, err := share.Weight(s.x, places, i)
				if err != nil {
					t.Fatal(err)
				}
				want = s.reduced(timesPlus(weight, l[k].V, want))
			}
			got, err := share.Combine(s.x, l)
			wantNumber(t, got, err, want, "Combine", s.p, l)
		}
	}
}

// P9.4, P9.1: a value that is too long, in each place of lists of several lengths.
func TestCombineLongValues(t *testing.T) {
	r := rand.New(rand.NewSource(227))
	for _, s := range settings(t) {
		for _, n := range []int{1, 2, 3, 9} {
			for at := range n {
				for _, long := range longScalars() {
					l := s.shares(s.polynomial(r, 2), someOf(r, n)...)
					l[at].V = long
					if got, err := share.Combine(s.x, l); got != nil || err != api.ErrLong {
						t.Fatalf("Combine with a long value: %x, %v", got, err)
					}
				}
			}
		}
	}
}
