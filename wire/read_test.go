package wire_test

import (
	"bytes"
	"encoding/binary"
	"math/rand"
	"slices"
	"testing"

	"treenail/api"
)

// endless are n digits of a count that never ends.
func endless(n int) []byte { return bytes.Repeat([]byte{128}, n) }

// overlong is a count with n digits 0 more than it needs.
func overlong(told []byte, n int) []byte {
	b := slices.Clone(told)
	b[len(b)-1] |= 128
	return append(append(b, endless(n-1)...), 0)
}

// noCounts are ways to tell something that is no count: with more digits than need be, above 2^62, without an end.
func noCounts(told []byte) [][]byte {
	var l [][]byte
	for n := 1; n < 13; n++ {
		l = append(l, overlong(told, n), overlong([]byte{0}, n), overlong([]byte{127}, n), overlong(binary.AppendUvarint(nil, greatest), n))
	}
	for _, n := range wrongCounts() {
		l = append(l, binary.AppendUvarint(nil, n))
	}
	for _, n := range []int{8, 9, 10, 20} {
		l = append(l, append(bytes.Repeat([]byte{255}, n), 127), append(endless(n), 64+1), append(endless(n+1), 1))
	}
	return append(l, endless(30), bytes.Repeat([]byte{255}, 30), endless(1000))
}

// testCountsRead tells each count of an encoding in ways that are none.
func testCountsRead[T any](t *testing.T, k kind[T]) {
	for _, v := range k.samples {
		p := k.pieces(v)
		for i, one := range p {
			if one.is == isBytes || one.is == isFlag {
				continue
			}
			for _, told := range noCounts(one.told) {
				k.wantError(t, p.with(i, told), api.ErrForm, one.is, i, short(told))
				k.wantError(t, slices.Concat(p[:i].joined(), told), api.ErrForm, one.is, i, short(told))
			}
		}
	}
}

// P11.2: counts that are told in more bytes than need be, above 2^62, or without an end, at each place where a count stands.
func TestCountsRead(t *testing.T) {
	testCountsRead(t, messages())
	testCountsRead(t, packets())
}

// testEdgesRead tells each number that is written as a count at all edges.
func testEdgesRead[T any](t *testing.T, k kind[T]) {
	for _, v := range k.samples {
		p, at := k.pieces(v), 0
		for i, one := range p {
			if one.is != isCount {
				continue
			}
			for _, n := range rightCounts() {
				z := v
				k.counts(&z)[at].set(n)
				k.wantRead(t, p.with(i, binary.AppendUvarint(nil, n)), k.normal(z), i, n)
			}
			at++
		}
		if at != len(k.counts(&v)) {
			t.Fatalf("%d counts", at)
		}
	}
}

// P11.2: counts at the edges, each in its place.
func TestEdgesRead(t *testing.T) {
	testEdgesRead(t, messages())
	testEdgesRead(t, packets())
}

// testLengthsRead tells each length as greater than what is left.
func testLengthsRead[T any](t *testing.T, k kind[T]) {
	for _, v := range k.samples {
		p := k.pieces(v)
		for i, one := range p {
			if one.is != isLength && one.is != isText {
				continue
			}
			left := uint64(len(p[i+1:].joined()))
			for _, n := range []uint64{left + 1, left + 2, left + 128, 1 << 20, 1 << 21, 1<<31 - 1, 1 << 31, 1 << 32, 1<<32 + left, 1 << 60, 1 << 61, greatest - 1, greatest} {
				k.wantError(t, p.with(i, binary.AppendUvarint(nil, n)), api.ErrForm, one.is, i, n)
			}
			for n := range left + 1 {
				k.wantAsModel(t, p.with(i, binary.AppendUvarint(nil, n)), one.is, i, n)
			}
		}
	}
}

// P11.2: lengths that are greater than what is left, and all that are less.
func TestLengthsRead(t *testing.T) {
	testLengthsRead(t, messages())
	testLengthsRead(t, packets())
}

// testFlagsRead tells Ok, or Ack, by each byte.
func testFlagsRead[T any](t *testing.T, k kind[T]) {
	for _, v := range k.samples {
		p := k.pieces(v)
		i := flagAt(p)
		for b := 2; b < 256; b++ {
			k.wantError(t, p.with(i, []byte{byte(b)}), api.ErrForm, v, b)
		}
		for _, told := range [][]byte{nil, {128, 0}, {129, 0}, {128, 1}, {0, 0}, {1, 1}} {
			k.wantAsModel(t, p.with(i, told), v, told)
		}
	}
}

// P11.2: an Ok or an Ack that is neither 0 nor 1.
func TestFlagsRead(t *testing.T) {
	testFlagsRead(t, messages())
	testFlagsRead(t, packets())
}

// limbsOf are the bytes of limbs, behind how many there are, zeros at their end included.
func limbsOf(a api.Nat) []byte {
	b := binary.AppendUvarint(nil, uint64(len(a)))
	for _, limb := range a {
		b = binary.LittleEndian.AppendUint64(b, limb)
	}
	return b
}

// P11.2: numbers of 65 limbs and more, and such whose last limb is 0, in each place; and numbers at the edges.
func TestNumbersRead(t *testing.T) {
	k := messages()
	for _, v := range []api.Msg{{Batch: [][]api.Pair{{{}}}, Proofs: [][]api.Proof{{{}}}}, richMessage()} {
		p, at := modelMessage(v), 0
		for i, one := range p {
			if one.is != isLimbs {
				continue
			}
			rest := p[i+2:].joined()
			told := func(a api.Nat) []byte { return slices.Concat(p[:i].joined(), limbsOf(a), rest) }
			for _, a := range rightNumbers() {
				z := normalMessage(v)
				*numbersOfMessage(&z)[at] = trimmed(a)
				k.wantRead(t, told(trimmed(a)), z, "number", at, a)
			}
			for _, a := range longNumbers() {
				k.wantError(t, told(a), api.ErrForm, "number", at, len(a))
			}
			for _, a := range []api.Nat{{0}, {0, 0}, {1, 0}, {ones, ones, 0}, make(api.Nat, 64), padded(full(63), 1), make(api.Nat, 65), padded(full(64), 1), padded(full(64), 64)} {
				k.wantError(t, told(a), api.ErrForm, "number", at, a)
			}
			for _, n := range []uint64{1 << 31, 1 << 32, 1 << 58, 1 << 60, 1 << 61, greatest} {
				// Eight times as many may be 0 again, where numbers end.
				k.wantError(t, slices.Concat(p[:i].joined(), binary.AppendUvarint(nil, n), rest), api.ErrForm, "number", at, n)
			}
			at++
		}
		if at != len(numbersOfMessage(&v)) {
			t.Fatalf("%d numbers", at)
		}
	}
}

// P11.2: bytes of a number that are cut off, anywhere in it.
func TestNumbersCut(t *testing.T) {
	k := messages()
	b := modelMessage(api.Msg{Share: api.Share{V: full(64)}}).joined()
	for n := range b {
		k.wantError(t, b[:n], api.ErrForm, n)
	}
	for n := range 65 {
		a := full(n)
		b := slices.Concat(make([]byte, 11), limbsOf(a))
		k.wantRead(t, b, api.Msg{Share: api.Share{V: trimmed(a)}}, n)
		k.wantError(t, slices.Concat(make([]byte, 11), limbsOf(a), make([]byte, 8)), api.ErrMore, n)
		if n > 0 {
			k.wantError(t, b[:len(b)-1], api.ErrForm, n)
			k.wantError(t, b[:len(b)-8], api.ErrForm, n)
		}
	}
}

// testBeginnings checks every proper beginning of encodings.
func testBeginnings[T any](t *testing.T, k kind[T]) {
	r := rand.New(rand.NewSource(430))
	all := slices.Clone(k.samples)
	for range 100 {
		all = append(all, k.some(r))
	}
	for _, v := range all {
		b := k.pieces(v).joined()
		k.wantRead(t, b, k.normal(v), v)
		for n := range b {
			k.wantError(t, b[:n], api.ErrForm, v, n)
		}
	}
}

// P11.2: every proper beginning of an encoding is none, no byte at all among them.
func TestBeginnings(t *testing.T) {
	testBeginnings(t, messages())
	testBeginnings(t, packets())
	messages().wantError(t, nil, api.ErrForm, "nil")
	messages().wantError(t, []byte{}, api.ErrForm, "empty")
	packets().wantError(t, nil, api.ErrForm, "nil")
	packets().wantError(t, []byte{}, api.ErrForm, "empty")
}

// testBehind checks encodings with bytes behind them.
func testBehind[T any](t *testing.T, k kind[T]) {
	r := rand.New(rand.NewSource(431))
	for _, v := range k.samples {
		b := k.pieces(v).joined()
		for _, behind := range [][]byte{{0}, {1}, {2}, {127}, {128}, {255}, make([]byte, 8), b, endless(100), someBytes(r, 1000)} {
			k.wantError(t, slices.Concat(b, behind), api.ErrMore, v, short(behind))
		}
	}
}

// P11.2: bytes behind an encoding.
func TestBehind(t *testing.T) {
	testBehind(t, messages())
	testBehind(t, packets())
}

// P11.2: empty lists are read as nil, and so are strings and numbers with nothing in them.
func TestEmptyIsNil(t *testing.T) {
	k := messages()
	empty := api.Msg{
		Batch:  [][]api.Pair{{}, {{A: api.Nat{}, B: api.Nat{}, C: api.Nat{}}}},
		Proofs: [][]api.Proof{{}, {{E: api.Nat{}, Z: api.Nat{}}}},
		Texts:  [][]byte{{}}, Share: api.Share{V: api.Nat{}},
	}
	want := api.Msg{Batch: [][]api.Pair{nil, {{}}}, Proofs: [][]api.Proof{nil, {{}}}, Texts: [][]byte{nil}}
	k.wantRead(t, modelMessage(empty).joined(), want)
	none := api.Msg{Batch: [][]api.Pair{}, Proofs: [][]api.Proof{}, Texts: [][]byte{}}
	k.wantRead(t, modelMessage(none).joined(), api.Msg{})
	packets().wantRead(t, modelPacket(api.Packet{Body: []byte{}}).joined(), api.Packet{})
}
