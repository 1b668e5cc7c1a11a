package wire_test

import (
	"bytes"
	"math/rand"
	"slices"
	"testing"

	"treenail/api"
	"treenail/wire"
)

// testWritten checks samples and any others against the model.
func testWritten[T any](t *testing.T, k kind[T]) {
	r := rand.New(rand.NewSource(410))
	for _, v := range k.samples {
		k.wantWritten(t, v, v)
	}
	for range 2000 {
		v := k.some(r)
		k.wantWritten(t, v, v)
	}
}

// P11.1: messages and packets of all sorts.
func TestWritten(t *testing.T) {
	testWritten(t, messages())
	testWritten(t, packets())
}

// testCounts sets each number that is written as a count to all edges.
func testCounts[T any](t *testing.T, k kind[T]) {
	for _, v := range k.samples {
		for i := range k.counts(&v) {
			for _, n := range rightCounts() {
				z := v
				one := k.counts(&z)[i]
				one.set(n)
				if one.wrong() {
					t.Fatalf("%d is a count", n)
				}
				k.wantWritten(t, z, one.name, n)
			}
			for _, n := range wrongCounts() {
				z := v
				one := k.counts(&z)[i]
				one.set(n)
				k.wantRefused(t, z, api.ErrArg, one.name, n)
			}
		}
	}
}

// P11.1: each count at the edges, and numbers that are negative or too great for one.
func TestCounts(t *testing.T) {
	testCounts(t, messages())
	testCounts(t, packets())
}

// testTwoCounts sets two numbers at once to what is no count.
func testTwoCounts[T any](t *testing.T, k kind[T]) {
	var v T
	for i := range k.counts(&v) {
		for j := range k.counts(&v) {
			for _, n := range wrongCounts() {
				z := v
				k.counts(&z)[i].set(n)
				k.counts(&z)[j].set(ones)
				k.wantRefused(t, z, api.ErrArg, i, j, n)
			}
		}
	}
}

// P11.1: no wrong number makes another one right.
func TestTwoCounts(t *testing.T) {
	testTwoCounts(t, messages())
	testTwoCounts(t, packets())
}

// P11.1: each number at the edges, told with zeros at its end, and such of more than 64 limbs.
func TestNumbers(t *testing.T) {
	k := messages()
	one := api.Msg{Batch: [][]api.Pair{{{}}}, Proofs: [][]api.Proof{{{}}}}
	for _, v := range []api.Msg{one, richMessage()} {
		for i := range numbersOfMessage(&v) {
			for _, a := range rightNumbers() {
				z := normalMessage(v)
				*numbersOfMessage(&z)[i] = a
				k.wantWritten(t, z, "number", i, a)
			}
			for _, a := range longNumbers() {
				z := normalMessage(v)
				*numbersOfMessage(&z)[i] = a
				k.wantRefused(t, z, api.ErrLong, "number", i, len(a))
			}
		}
	}
}

// P11.1: zeros at the end of a number do not count.
func TestZerosDoNotCount(t *testing.T) {
	for _, a := range rightNumbers() {
		want, err := wire.Message(api.Msg{Share: api.Share{V: trimmed(a)}})
		got, errToo := wire.Message(api.Msg{Share: api.Share{V: a}})
		if err != nil || errToo != nil || !bytes.Equal(got, want) {
			t.Fatalf("%x: %x, not %x; %v, %v", a, got, want, errToo, err)
		}
	}
}

// longLists are messages with one list of n elements, in each place where a list may be.
func longLists(n int) []api.Msg {
	return []api.Msg{
		{Batch: make([][]api.Pair, n)}, {Batch: [][]api.Pair{make([]api.Pair, n)}}, {Batch: slices.Repeat([][]api.Pair{{{}}}, n)},
		{Proofs: make([][]api.Proof, n)}, {Proofs: [][]api.Proof{make([]api.Proof, n)}}, {Proofs: slices.Repeat([][]api.Proof{{{}}}, n)},
		{Texts: make([][]byte, n)}, {Texts: [][]byte{make([]byte, n)}}, {Texts: slices.Repeat([][]byte{{5}}, n)},
	}
}

// P11.1: lists and strings whose lengths are at the edges of counts.
func TestLengths(t *testing.T) {
	k := messages()
	for _, n := range []int{0, 1, 2, 126, 127, 128, 129, 16383, 16384, 16385} {
		for i, v := range longLists(n) {
			k.wantWritten(t, v, "list", i, n)
		}
		packets().wantWritten(t, api.Packet{Body: make([]byte, n)}, n)
	}
}

// fillers are messages that leave room for a string more, but are long each by something else.
func fillers() []api.Msg {
	pairs := slices.Repeat([]api.Pair{{A: full(64), B: full(64), C: full(64)}}, 600)
	proofs := slices.Repeat([]api.Proof{{E: full(64), Z: padded(full(64), 2)}}, 900)
	l := []api.Msg{{}, richMessage(), {Batch: [][]api.Pair{pairs, nil}}, {Proofs: [][]api.Proof{proofs, nil}}, {Share: api.Share{I: 1, V: full(64)}}}
	return append(append(l, longLists(5000)...), longLists(1<<18-100)...)
}

// testSizes checks things at the greatest size, a byte less and a byte more.
func testSizes[T any](t *testing.T, k kind[T], fillers []T) {
	for i, v := range fillers {
		base := k.base(v)
		for _, size := range []int{k.most - 1, k.most} {
			k.wantSize(t, k.grown(t, v, base, size), size, "filler", i)
		}
		for _, size := range []int{k.most + 1, k.most + 2, k.most + 1000, 2 * k.most} {
			k.wantRefused(t, k.grown(t, v, base, size), api.ErrLong, "filler", i, size)
		}
	}
}

// wantSize checks that as many bytes are written of a thing as there should be, and that they are those of the model.
func (k kind[T]) wantSize(t *testing.T, v T, size int, what ...any) {
	t.Helper()
	got, err := k.write(v)
	if err != nil || len(got) != size || !bytes.Equal(got, k.pieces(v).joined()) {
		t.Fatalf("%s %v: %d bytes, %v, not %d", k.name, what, len(got), err, size)
	}
}

// P11.1: encodings of as many bytes as there may be, and of one more, whatever they are made of.
func TestSizes(t *testing.T) {
	testSizes(t, messages(), fillers())
	testSizes(t, packets(), samplePackets())
}

// P11.1: what is last in a message is what makes it too long: the string, the Share's I, and its number.
func TestLastBytesTooMany(t *testing.T) {
	k := messages()
	v := k.ofSize(t, api.Msg{}, mostOfMsg)
	for i, share := range []api.Share{{I: 128}, {I: greatest}, {V: api.Nat{1}}, {I: 128, V: api.Nat{1}}} {
		z := v
		z.Share = share
		k.wantRefused(t, z, api.ErrLong, "share", i)
	}
	v = k.ofSize(t, api.Msg{Share: api.Share{I: 128, V: api.Nat{1}}}, mostOfMsg)
	k.wantWritten(t, v, "with a share")
	v.Share.I = 127
	k.wantWritten(t, v, "with a share that is shorter by a byte")
	v.Share.V = api.Nat{1, 1}
	k.wantRefused(t, v, api.ErrLong, "with a share that is longer by some bytes")
}

// P11.1: lists that are too long by one element, without any string.
func TestOneElementTooMany(t *testing.T) {
	k := messages()
	// What an element costs, and what all else does, in the order of longLists.
	for i, cost := range [][2]int{{1, 14}, {3, 15}, {4, 14}, {1, 14}, {2, 15}, {3, 14}, {1, 14}, {1, 15}, {2, 14}} {
		n := (mostOfMsg - cost[1]) / cost[0]
		k.wantSize(t, longLists(n)[i], n*cost[0]+cost[1], "list", i, n)
		k.wantRefused(t, longLists(n + 1)[i], api.ErrLong, "list", i, n+1)
	}
}

// P1: lists that are written of the same elements over and over are refused before they fill all memory, or all time.
func TestEndless(t *testing.T) {
	k := messages()
	const n = 1 << 20
	for i, v := range []api.Msg{
		{Batch: slices.Repeat([][]api.Pair{make([]api.Pair, n)}, n)},
		{Proofs: slices.Repeat([][]api.Proof{make([]api.Proof, n)}, n)},
		{Texts: slices.Repeat([][]byte{make([]byte, n)}, n)},
		{Batch: [][]api.Pair{slices.Repeat([]api.Pair{{A: full(1 << 16), B: full(1 << 16)}}, n)}},
	} {
		k.wantRefused(t, v, api.ErrLong, "endless", i)
		v.Share.I = -1
		k.wantRefused(t, v, api.ErrArg, "endless", i)
	}
}
