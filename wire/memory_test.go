package wire_test

import (
	"bytes"
	"math/rand"
	"reflect"
	"slices"
	"testing"

	"treenail/api"
	"treenail/wire"
)

// whole is a list with the room behind it.
func whole[E any](l []E) []E { return l[:cap(l)] }

// roomy is a list with room behind it that holds something: what a call must not write to.
func roomy[E any](l []E, behind ...E) []E { return slices.Concat(l, behind)[:len(l)] }

// roomyNat is a number with room behind it.
func roomyNat(a api.Nat) api.Nat { return roomy(a, 77, 78, 79) }

// roomyBytes are bytes with room behind them.
func roomyBytes(b []byte) []byte { return roomy(b, []byte("room behind")...) }

// roomyMessage is a message that shares nothing with another, with room behind all that is in it.
func roomyMessage(m api.Msg) api.Msg {
	pair := func(p api.Pair) api.Pair { return api.Pair{A: roomyNat(p.A), B: roomyNat(p.B), C: roomyNat(p.C)} }
	proof := func(p api.Proof) api.Proof { return api.Proof{E: roomyNat(p.E), Z: roomyNat(p.Z)} }
	m.Batch = roomy(mapped(m.Batch, func(l []api.Pair) []api.Pair {
		return roomy(mapped(l, pair), pair(api.Pair{}), pair(api.Pair{}))
	}), []api.Pair{{}})
	m.Proofs = roomy(mapped(m.Proofs, func(l []api.Proof) []api.Proof {
		return roomy(mapped(l, proof), proof(api.Proof{}), proof(api.Proof{}))
	}), []api.Proof{{}})
	m.Texts = roomy(mapped(m.Texts, roomyBytes), []byte("a text behind"))
	m.Share.V = roomyNat(m.Share.V)
	return m
}

// part is a piece of a thing's memory, its room included: what is in it, and how it is overwritten.
type part struct {
	name  string
	told  func() []uint64
	spoil func(n uint64)
}

// numberPart is a number's memory.
func numberPart(name string, a api.Nat) part {
	return part{name, func() []uint64 { return slices.Clone(whole(a)) }, func(n uint64) {
		for i := range whole(a) {
			whole(a)[i] += n
		}
	}}
}

// bytesPart is the memory of bytes.
func bytesPart(name string, b []byte) part {
	return part{name, func() []uint64 {
		var z []uint64
		for _, one := range whole(b) {
			z = append(z, uint64(one))
		}
		return z
	}, func(n uint64) {
		for i := range whole(b) {
			whole(b)[i] += byte(n)
		}
	}}
}

// listPart is the memory of a list of lists or of structs, told by what is told of each element; what the elements hold are parts of their own.
func listPart[E any](name string, l []E, told func(e E) uint64, other E) part {
	return part{name, func() []uint64 {
		z := []uint64{uint64(len(l))}
		for _, e := range whole(l) {
			z = append(z, told(e))
		}
		return z
	}, func(uint64) {
		for i := range whole(l) {
			whole(l)[i] = other
		}
	}}
}

// size is a list's length as a number.
func size[E any](l []E) uint64 { return uint64(len(l)) }

// partsOf are all parts of a message.
func partsOf(m api.Msg) []part {
	pair := func(p api.Pair) uint64 { return size(p.A) + size(p.B)<<20 + size(p.C)<<40 }
	proof := func(p api.Proof) uint64 { return size(p.E) + size(p.Z)<<20 }
	l := []part{
		listPart("Batch", m.Batch, size, make([]api.Pair, 5)), listPart("Proofs", m.Proofs, size, make([]api.Proof, 5)),
		listPart("Texts", m.Texts, size, []byte("spoiled")), numberPart("V", m.Share.V),
	}
	for _, letter := range m.Batch {
		l = append(l, listPart("letter", letter, pair, api.Pair{A: full(9)}))
		for _, p := range letter {
			l = append(l, numberPart("A", p.A), numberPart("B", p.B), numberPart("C", p.C))
		}
	}
	for _, proofs := range m.Proofs {
		l = append(l, listPart("proofs", proofs, proof, api.Proof{E: full(9)}))
		for _, p := range proofs {
			l = append(l, numberPart("E", p.E), numberPart("Z", p.Z))
		}
	}
	for _, text := range m.Texts {
		l = append(l, bytesPart("text", text))
	}
	return l
}

// everything is all that is in parts.
func everything(l []part) [][]uint64 {
	var z [][]uint64
	for _, one := range l {
		z = append(z, one.told())
	}
	return z
}

// memoryMessages are messages whose memory is looked at, wrong ones among them.
func memoryMessages() []api.Msg {
	r := rand.New(rand.NewSource(450))
	l := append(sampleMessages(), api.Msg{Kind: -1, Texts: [][]byte{{1}}}, api.Msg{Texts: [][]byte{{1}}, Share: api.Share{V: full(65)}})
	for range 300 {
		l = append(l, someMessage(r))
	}
	return l
}

// R2: what is written shares no memory with the message, and leaves it as it was, the room behind all of it included.
func TestMessageStays(t *testing.T) {
	for _, m := range memoryMessages() {
		z := roomyMessage(m)
		parts := partsOf(z)
		was := everything(parts)
		b, err := wire.Message(z)
		want := slices.Clone(b)
		for i := range whole(b) {
			whole(b)[i] ^= 0x5d
		}
		if !reflect.DeepEqual(everything(parts), was) {
			t.Fatalf("the message %v has changed", m)
		}
		second, errToo := wire.Message(z)
		for _, one := range parts {
			one.spoil(93)
		}
		if err != errToo || !bytes.Equal(second, want) {
			t.Fatalf("%v: %x, then %x; %v, then %v", m, want, second, err, errToo)
		}
		if third, _ := wire.Message(roomyMessage(m)); !bytes.Equal(third, want) {
			t.Fatalf("%v: the message is kept", m)
		}
	}
}

// R2: what is written shares no memory with the packet, and leaves it as it was.
func TestPacketStays(t *testing.T) {
	for _, p := range append(samplePackets(), api.Packet{From: -1, Body: []byte{1, 2}}) {
		p.Body = roomyBytes(p.Body)
		was := slices.Clone(whole(p.Body))
		b, err := wire.Packet(p)
		want := slices.Clone(b)
		for i := range whole(b) {
			whole(b)[i] ^= 0x5d
		}
		if !bytes.Equal(whole(p.Body), was) {
			t.Fatalf("the packet %v has changed", p)
		}
		second, errToo := wire.Packet(p)
		bytesPart("Body", p.Body).spoil(93)
		if err != errToo || !bytes.Equal(second, want) {
			t.Fatalf("%v: %x, then %x; %v, then %v", p, want, second, err, errToo)
		}
	}
}

// readable are encodings, and bytes that are none, with room behind them.
func readable[T any](k kind[T]) [][]byte {
	r := rand.New(rand.NewSource(451))
	l := [][]byte{roomyBytes(nil)}
	for _, v := range k.samples {
		b := k.pieces(v).joined()
		l = append(l, roomyBytes(b), roomyBytes(append(b, 0)), roomyBytes(b[:len(b)-1]), roomyBytes(spoiled(r, b)))
	}
	for range 200 {
		l = append(l, roomyBytes(k.pieces(k.some(r)).joined()))
	}
	return l
}

// testBytesStay checks that bytes stay as they were, and that what was read of them shares no memory with them.
func testBytesStay[T any](t *testing.T, k kind[T], parts func(T) []part) {
	for _, b := range readable(k) {
		was := slices.Clone(whole(b))
		got, err := k.read(b)
		want, _ := k.modelRead(b)
		if !bytes.Equal(whole(b), was) {
			t.Fatalf("%s: the bytes %x have changed", k.name, b)
		}
		second, errToo := k.read(b)
		for _, one := range parts(second) {
			one.spoil(93)
		}
		if !bytes.Equal(whole(b), was) || err != errToo {
			t.Fatalf("%s: the bytes %x share their memory with what was read of them", k.name, b)
		}
		bytesPart("b", b).spoil(93)
		if !reflect.DeepEqual(got, want) {
			t.Fatalf("%s: the bytes %x are kept", k.name, was)
		}
	}
}

// partsOfPacket is the one part of a packet.
func partsOfPacket(p api.Packet) []part { return []part{bytesPart("Body", p.Body)} }

// R2: bytes stay as they were, and aren't kept.
func TestBytesStay(t *testing.T) {
	testBytesStay(t, messages(), partsOf)
	testBytesStay(t, packets(), partsOfPacket)
}

// R2: no two lists of a message that was read share memory, the room behind them included.
func TestPartsAreApart(t *testing.T) {
	for _, m := range append(sampleMessages(), api.Msg{
		Batch:  [][]api.Pair{make([]api.Pair, 3), make([]api.Pair, 5), nil, make([]api.Pair, 1), nil},
		Proofs: [][]api.Proof{make([]api.Proof, 3), nil, make([]api.Proof, 5)},
		Texts:  [][]byte{{1}, {2, 3}, nil, {4}, []byte("hello"), {5}},
	}) {
		got, err := wire.ReadMessage(modelMessage(m).joined())
		if err != nil {
			t.Fatal(err)
		}
		parts := partsOf(got)
		for i, one := range parts {
			was := everything(parts)
			one.spoil(93)
			for j, other := range everything(parts) {
				if i != j && !slices.Equal(other, was[j]) {
					t.Fatalf("%v: %s shares its memory with %s", m, one.name, parts[j].name)
				}
			}
		}
	}
}

// R2: one number, and one string, in all places where they may stand.
func TestOneEverywhere(t *testing.T) {
	a, text := api.Nat{1, 2, 0}, []byte("text")
	letter, proofs := []api.Pair{{A: a, B: a, C: a}}, []api.Proof{{E: a, Z: a}}
	m := api.Msg{
		Batch: [][]api.Pair{letter, letter, nil}, Proofs: [][]api.Proof{proofs, nil, proofs},
		Texts: [][]byte{text, text}, Share: api.Share{I: 1, V: a},
	}
	b, err := wire.Message(m)
	if err != nil || !bytes.Equal(b, modelMessage(m).joined()) || !slices.Equal(a, api.Nat{1, 2, 0}) || string(text) != "text" {
		t.Fatal(b, err, a, text)
	}
	messages().wantRead(t, b, normalMessage(m))
}
