package mix_test

import (
	"testing"

	"treenail/api"
	"treenail/mix"
)

// The examples of the chapter.
func TestExamples(t *testing.T) {
	x := chapters(t).x
	l, err := mix.Seal(x, api.Nat{1}, []api.Nat{{4}}, []api.Nat{{0}})
	wantLetter(t, l, err, []api.Pair{{A: api.Nat{1}, B: api.Nat{4}, C: api.Nat{1}}}, "Seal(1, (4), (0))")
	l, err = mix.Seal(x, api.Nat{1}, nil, nil)
	wantError(t, l, err, api.ErrArg, "Seal(1, no elements, no scalars)")
	l, err = mix.Seal(x, api.Nat{1}, []api.Nat{{2}}, []api.Nat{{0}})
	wantError(t, l, err, api.ErrGroup, "Seal(1, (2), (0))")
}

// pairOf is a pair of small numbers.
func pairOf(a, b, c uint64) api.Pair { return api.Pair{A: api.Nat{a}, B: api.Nat{b}, C: api.Nat{c}} }

// P7.2, P7.3, P7.5, P7.6: the way of a letter through two servers to a next key, worked out elsewhere. The shares are 1234567 and 333, the next key is G to the 987654321.
func TestKnownWay(t *testing.T) {
	x := thirtyBits(t).x
	key, next := api.Nat{131053214}, api.Nat{42940957}

	l, err := mix.Seal(x, key, []api.Nat{{9}, {25}, {2}}, []api.Nat{{5}, {447635159 + 7}, {3, 1}})
	wantLetter(t, l, err, []api.Pair{pairOf(1024, 247383838, 1), pairOf(16384, 683092138, 1), pairOf(538587903, 419828907, 1)}, "Seal")

	l, err = mix.Anew(x, key, l, []api.Nat{{11}, nil, {447635158}})
	wantLetter(t, l, err, []api.Pair{pairOf(713886020, 627868019, 1), pairOf(16384, 683092138, 1), pairOf(806099715, 133227162, 1)}, "Anew")

	l, err = mix.Strip(x, api.Nat{1234567}, next, l, []api.Nat{{17}, {19}, {23}})
	wantLetter(t, l, err, []api.Pair{pairOf(713886020, 840465735, 169733123), pairOf(16384, 884708214, 29919011), pairOf(806099715, 227691539, 497104264)}, "Strip")

	l, err = mix.Strip(x, api.Nat{333}, next, l, []api.Nat{{2}, {3}, {4}})
	wantLetter(t, l, err, []api.Pair{pairOf(713886020, 844315494, 29919011), pairOf(16384, 889168582, 124276066), pairOf(806099715, 580957787, 130306286)}, "Strip, again")

	l, err = mix.Turn(x, l)
	wantLetter(t, l, err, []api.Pair{pairOf(29919011, 844315494, 1), pairOf(124276066, 889168582, 1), pairOf(130306286, 580957787, 1)}, "Turn")

	l, err = mix.Strip(x, api.Nat{987654321}, api.Nat{1}, l, make([]api.Nat, 3))
	wantLetter(t, l, err, []api.Pair{pairOf(29919011, 9, 1), pairOf(124276066, 25, 1), pairOf(130306286, 2, 1)}, "Strip, at last")

	m, err := mix.Open(x, l)
	if err != nil || !sameNumbers(m, []api.Nat{{9}, {25}, {2}}) {
		t.Error(m, err)
	}
}
