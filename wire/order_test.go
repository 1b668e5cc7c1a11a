package wire_test

import (
	"bytes"
	"math/rand"
	"slices"
	"testing"

	"treenail/api"
)

// tooLong are messages that are too long, or have a number that is, in each place.
func tooLong(t *testing.T) []api.Msg {
	l := []api.Msg{
		messages().ofSize(t, api.Msg{}, mostOfMsg+1), messages().ofSize(t, richMessage(), mostOfMsg+1),
		{Batch: make([][]api.Pair, mostOfMsg)}, {Batch: [][]api.Pair{make([]api.Pair, mostOfMsg)}},
		{Proofs: make([][]api.Proof, mostOfMsg)}, {Proofs: [][]api.Proof{make([]api.Proof, mostOfMsg)}},
		{Texts: make([][]byte, mostOfMsg)}, {Texts: [][]byte{make([]byte, mostOfMsg)}},
	}
	rich := richMessage()
	for i := range numbersOfMessage(&rich) {
		z := normalMessage(rich)
		*numbersOfMessage(&z)[i] = full(65)
		l = append(l, z)
	}
	return l
}

// testArgFirst checks that a number that is no count is told of ahead of what is too long.
func testArgFirst[T any](t *testing.T, k kind[T], long []T) {
	for i, v := range long {
		k.wantRefused(t, v, api.ErrLong, "too long", i)
		for j := range k.counts(&v) {
			for _, n := range wrongCounts() {
				z := v
				one := k.counts(&z)[j]
				one.set(n)
				k.wantRefused(t, z, api.ErrArg, "too long", i, one.name, n)
			}
		}
	}
}

// P11.1, R1: ErrArg comes ahead of ErrLong, wherever both are.
func TestArgFirst(t *testing.T) {
	testArgFirst(t, messages(), tooLong(t))
	testArgFirst(t, packets(), []api.Packet{
		packets().ofSize(t, api.Packet{}, mostOfPack+1), {Body: make([]byte, mostOfPack)}, {Ack: true, Body: make([]byte, 3*mostOfPack)},
	})
}

// testLongFirst checks bytes that are too many, whatever they are.
func testLongFirst[T any](t *testing.T, k kind[T]) {
	r := rand.New(rand.NewSource(420))
	var none T
	p := k.pieces(k.ofSize(t, none, k.most))
	right, form := p.joined(), p.with(flagAt(p), []byte{2})
	k.wantError(t, form, api.ErrForm, "of the wrong form")
	some := k.pieces(k.samples[len(k.samples)-1]).joined()
	for _, more := range []int{1, 2, 100, k.most} {
		size := k.most + more
		k.wantError(t, k.pieces(k.ofSize(t, none, size)).joined(), api.ErrLong, "too long by", more)
		k.wantError(t, append(slices.Clone(right), make([]byte, more)...), api.ErrLong, "with bytes behind", more)
		k.wantError(t, append(slices.Clone(some), make([]byte, size-len(some))...), api.ErrLong, "with many bytes behind", more)
		k.wantError(t, append(slices.Clone(form), make([]byte, more)...), api.ErrLong, "of the wrong form", more)
		for _, one := range []byte{0, 1, 2, 127, 128, 255} {
			k.wantError(t, bytes.Repeat([]byte{one}, size), api.ErrLong, "of bytes", one, more)
		}
		k.wantError(t, someBytes(r, size), api.ErrLong, "of any bytes", more)
	}
}

// P11.2, R1: ErrLong comes ahead of ErrForm and of ErrMore.
func TestLongFirst(t *testing.T) {
	testLongFirst(t, messages())
	testLongFirst(t, packets())
}

// testFormFirst checks that bytes of the wrong form are told of ahead of bytes behind.
func testFormFirst[T any](t *testing.T, k kind[T]) {
	for _, v := range k.samples {
		p := k.pieces(v)
		for i, one := range p {
			if one.is == isBytes {
				continue
			}
			for _, behind := range [][]byte{nil, {0}, make([]byte, 100), p.joined()} {
				k.wantError(t, append(p.with(i, endless(30)), behind...), api.ErrForm, v, i)
				if one.is == isFlag {
					k.wantError(t, append(p.with(i, []byte{2}), behind...), api.ErrForm, v, i)
				}
			}
		}
	}
}

// P11.2, R1: ErrForm comes ahead of ErrMore.
func TestFormFirst(t *testing.T) {
	testFormFirst(t, messages())
	testFormFirst(t, packets())
}

// testMost checks as many bytes as there may be.
func testMost[T any](t *testing.T, k kind[T]) {
	r := rand.New(rand.NewSource(421))
	for _, v := range k.samples {
		full := k.ofSize(t, v, k.most)
		b := k.pieces(full).joined()
		k.wantRead(t, b, k.normal(full), "of most bytes")
		k.wantError(t, b[:k.most-1], api.ErrForm, "of most bytes but one")
		less := k.pieces(k.ofSize(t, v, k.most-1)).joined()
		k.wantError(t, append(less, 0), api.ErrMore, "of most bytes, the last of them behind")
		some := k.pieces(v).joined()
		k.wantError(t, append(some, make([]byte, k.most-len(some))...), api.ErrMore, "of few bytes, with all others behind")
		k.wantError(t, append(k.pieces(v).with(0, endless(30)), make([]byte, k.most-len(some)-100)...), api.ErrForm, "of the wrong form, and long")
	}
	for _, one := range []byte{0, 1, 2, 127, 128, 255} {
		k.wantAsModel(t, bytes.Repeat([]byte{one}, k.most), "of bytes", one)
	}
	for range 20 {
		k.wantAsModel(t, someBytes(r, k.most), "of any bytes")
	}
}

// P11.2: as many bytes as there may be, right ones, such with bytes behind, and such of the wrong form.
func TestMost(t *testing.T) {
	testMost(t, messages())
	testMost(t, packets())
}
