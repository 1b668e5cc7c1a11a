package wire_test

import (
	"bytes"
	"encoding/binary"
	"math/rand"
	"reflect"
	"slices"
	"testing"

	"treenail/api"
	"treenail/wire"
)

const ones = 1<<64 - 1

// place is where a thing has a number that is written as a count.
type place struct {
	name  string
	set   func(n uint64) // of numbers with a sign, the negative ones are those from 2^63 on
	wrong func() bool
}

// integer is the place of a number with a sign.
func integer(name string, p *int) place {
	return place{name, func(n uint64) { *p = int(n) }, func() bool { return *p < 0 || *p > greatest }}
}

// kind is one of the two kinds of things that are written, with all that the tests ask of it.
type kind[T any] struct {
	name    string
	most    int
	write   func(T) ([]byte, error)
	read    func([]byte) (T, error)
	pieces  func(T) pieces
	loose   func(*loose) T
	counts  func(*T) []place
	numbers func(*T) []*api.Nat
	normal  func(T) T
	longer  func(T, int) T // with another string of so many bytes
	samples []T
	some    func(*rand.Rand) T
}

// messages are one of the kinds.
func messages() kind[api.Msg] {
	return kind[api.Msg]{
		"message", mostOfMsg, wire.Message, wire.ReadMessage, modelMessage, looseMessage, countsOfMessage, numbersOfMessage, normalMessage,
		func(m api.Msg, n int) api.Msg {
			m.Texts = append(slices.Clone(m.Texts), bytes.Repeat([]byte{7}, n))
			return m
		},
		sampleMessages(), someMessage,
	}
}

// packets are the other one.
func packets() kind[api.Packet] {
	return kind[api.Packet]{
		"packet", mostOfPack, wire.Packet, wire.ReadPacket, modelPacket, loosePacket, countsOfPacket, func(*api.Packet) []*api.Nat { return nil }, normalPacket,
		func(p api.Packet, n int) api.Packet {
			p.Body = bytes.Repeat([]byte{7}, n)
			return p
		},
		samplePackets(), somePacket,
	}
}

// countsOfMessage are the places of counts in a message.
func countsOfMessage(m *api.Msg) []place {
	return []place{
		integer("Kind", &m.Kind), integer("Group", &m.Group), integer("Layer", &m.Layer), integer("Phase", &m.Phase),
		integer("Step", &m.Step), integer("User", &m.User), integer("I", &m.Share.I),
	}
}

// countsOfPacket are the places of counts in a packet.
func countsOfPacket(p *api.Packet) []place {
	seq := place{"Seq", func(n uint64) { p.Seq = n }, func() bool { return p.Seq > greatest }}
	return []place{integer("From", &p.From), integer("To", &p.To), seq}
}

// numbersOfMessage are all numbers of a message.
func numbersOfMessage(m *api.Msg) []*api.Nat {
	var l []*api.Nat
	for _, letter := range m.Batch {
		for i := range letter {
			l = append(l, &letter[i].A, &letter[i].B, &letter[i].C)
		}
	}
	for _, proofs := range m.Proofs {
		for i := range proofs {
			l = append(l, &proofs[i].E, &proofs[i].Z)
		}
	}
	return append(l, &m.Share.V)
}

// full is the number of n limbs with all bits set.
func full(n int) api.Nat { return slices.Repeat(api.Nat{ones}, n) }

// power is 2^(64 n): a number of n + 1 limbs.
func power(n int) api.Nat { return append(make(api.Nat, n), 1) }

// padded is a number told with n zeros at its end.
func padded(a api.Nat, n int) api.Nat { return append(slices.Clone(a), make(api.Nat, n)...) }

// someBytes are any n bytes.
func someBytes(r *rand.Rand, n int) []byte {
	b := make([]byte, n)
	r.Read(b)
	return b
}

// rightCounts are counts at the edges: the least and the greatest of each length.
func rightCounts() []uint64 {
	l := []uint64{0, 1, 2, 127, 128, 129, 255, 256, 300, 16383, 16384, greatest - 1, greatest}
	for digits := 3; digits < 9; digits++ {
		l = append(l, 1<<(7*digits)-1, 1<<(7*digits))
	}
	return l
}

// wrongCounts are numbers that are no counts: too great, or negative where there is a sign.
func wrongCounts() []uint64 {
	return []uint64{greatest + 1, greatest + 2, greatest + 128, 1<<63 - 1, 1 << 63, 1<<63 + 1, ones - greatest, ones - 127, ones - 1, ones}
}

// rightNumbers are numbers at the edges, told in all ways.
func rightNumbers() []api.Nat {
	return []api.Nat{
		nil, {}, {0}, {0, 0}, make(api.Nat, 64), make(api.Nat, 65), make(api.Nat, 500), {1}, {1, 0}, {255}, {256}, {1 << 63}, {0x0102030405060708},
		{0, 1}, {ones, 1, 0, 0}, full(63), power(63), full(64), padded(full(64), 1), padded(power(63), 1), padded(full(64), 400), padded(api.Nat{5}, 64),
	}
}

// longNumbers are numbers of more than 64 limbs.
func longNumbers() []api.Nat {
	return []api.Nat{power(64), full(65), padded(full(65), 1), power(127), full(128), full(500), power(1 << 14)}
}

// richMessage is a message that has everything.
func richMessage() api.Msg {
	return api.Msg{
		Kind: 9, Group: 127, Layer: 128, Phase: 16383, Step: 16384, User: greatest, Ok: true,
		Batch: [][]api.Pair{
			{{A: api.Nat{1}, B: api.Nat{2, 3}, C: full(64)}, {}, {A: api.Nat{0, 4}, C: api.Nat{5, 0, 0}}},
			nil, {}, {{B: power(63)}},
		},
		Proofs: [][]api.Proof{nil, {{E: api.Nat{6}, Z: api.Nat{7, 8}}, {}}, {}, {{Z: padded(full(64), 1)}}},
		Texts:  [][]byte{[]byte("ab"), nil, {}, {0}, bytes.Repeat([]byte{200}, 130)},
		Share:  api.Share{I: 200, V: api.Nat{9, 10}},
	}
}

// sampleMessages are messages with nothing, with one thing each, and with everything; also lists at the edges of counts.
func sampleMessages() []api.Msg {
	l := []api.Msg{
		{}, {Ok: true}, {Batch: [][]api.Pair{}}, {Batch: [][]api.Pair{nil}}, {Batch: [][]api.Pair{{}}}, {Batch: [][]api.Pair{{{}}}},
		{Proofs: [][]api.Proof{}}, {Proofs: [][]api.Proof{nil}}, {Proofs: [][]api.Proof{{}}}, {Proofs: [][]api.Proof{{{}}}},
		{Texts: [][]byte{}}, {Texts: [][]byte{nil}}, {Texts: [][]byte{{}}}, {Texts: [][]byte{{0}}}, {Share: api.Share{I: 3}}, {Share: api.Share{V: api.Nat{3}}},
		richMessage(),
	}
	for kind := api.MsgSubmit; kind <= api.MsgClock; kind++ {
		l = append(l, api.Msg{Kind: kind, Step: 1 << kind})
	}
	for _, n := range []int{127, 128} {
		l = append(l,
			api.Msg{Batch: make([][]api.Pair, n)}, api.Msg{Batch: [][]api.Pair{make([]api.Pair, n)}},
			api.Msg{Proofs: make([][]api.Proof, n)}, api.Msg{Proofs: [][]api.Proof{make([]api.Proof, n)}},
			api.Msg{Texts: make([][]byte, n)}, api.Msg{Texts: [][]byte{make([]byte, n)}},
		)
	}
	return l
}

// samplePackets are packets with nothing, with one thing each, and with everything.
func samplePackets() []api.Packet {
	return []api.Packet{
		{}, {From: 1}, {To: 2}, {Seq: 3}, {Ack: true}, {Body: []byte{}}, {Body: []byte{0}}, {Body: []byte{1, 128, 255}},
		{From: 127, To: 128, Seq: 16384, Ack: true, Body: bytes.Repeat([]byte{9}, 127)}, {From: greatest, To: greatest - 1, Seq: greatest, Body: make([]byte, 128)},
		{From: 1, To: 2, Seq: 300, Body: modelMessage(richMessage()).joined()},
	}
}

// someCount is any count, most often a small one.
func someCount(r *rand.Rand) uint64 {
	if r.Intn(8) == 0 {
		return greatest
	}
	return uint64(r.Int63n(greatest)) >> r.Intn(63)
}

// someNumber is any number, told with zeros at its end or without.
func someNumber(r *rand.Rand) api.Nat {
	n := r.Intn(4)
	if r.Intn(20) == 0 {
		n = mostLimbs
	}
	var a api.Nat
	for range n {
		a = append(a, r.Uint64()>>r.Intn(64))
	}
	return padded(a, r.Intn(3))
}

// someList is any list of a few elements, which may be nil or empty.
func someList[E any](r *rand.Rand, element func() E) []E {
	var l []E
	if r.Intn(2) == 0 {
		l = []E{}
	}
	for range r.Intn(4) {
		l = append(l, element())
	}
	return l
}

// someMessage is any message.
func someMessage(r *rand.Rand) api.Msg {
	m := api.Msg{
		Ok: r.Intn(2) == 0,
		Batch: someList(r, func() []api.Pair {
			return someList(r, func() api.Pair { return api.Pair{A: someNumber(r), B: someNumber(r), C: someNumber(r)} })
		}),
		Proofs: someList(r, func() []api.Proof {
			return someList(r, func() api.Proof { return api.Proof{E: someNumber(r), Z: someNumber(r)} })
		}),
		Texts: someList(r, func() []byte { return someList(r, func() byte { return byte(r.Intn(256)) }) }),
		Share: api.Share{V: someNumber(r)},
	}
	for _, one := range countsOfMessage(&m) {
		one.set(someCount(r))
	}
	return m
}

// somePacket is any packet.
func somePacket(r *rand.Rand) api.Packet {
	p := api.Packet{Ack: r.Intn(2) == 0, Body: someBytes(r, r.Intn(200))}
	for _, one := range countsOfPacket(&p) {
		one.set(someCount(r))
	}
	return p
}

// base is how many bytes the encoding of a thing has with an empty string more.
func (k kind[T]) base(v T) int { return len(k.pieces(k.longer(v, 0)).joined()) }

// grown is a thing of that base with one string more, which is as long as makes an encoding of so many bytes.
func (k kind[T]) grown(t *testing.T, v T, base, size int) T {
	t.Helper()
	for more := range 4 {
		// The count of the string's bytes has that many digits more than that of an empty one.
		n := size - base - more
		if n >= 0 && len(binary.AppendUvarint(nil, uint64(n))) == 1+more {
			return k.longer(v, n)
		}
	}
	t.Fatalf("no %s of %d bytes", k.name, size)
	return v
}

// ofSize is a thing that is grown to an encoding of so many bytes.
func (k kind[T]) ofSize(t *testing.T, v T, size int) T {
	t.Helper()
	return k.grown(t, v, k.base(v), size)
}

// short tells the beginning of what may be long.
func short(b []byte) []byte { return b[:min(len(b), 200)] }

// wantWritten checks what is written of a thing: the bytes that the model says, or its error as a plain code, and no bytes.
func (k kind[T]) wantWritten(t *testing.T, v T, what ...any) {
	t.Helper()
	want, wantErr := k.modelWrite(v)
	got, err := k.write(v)
	if err != wantErr || !bytes.Equal(got, want) {
		t.Fatalf("%s %v: %x, %v, not %x, %v", k.name, what, short(got), err, short(want), wantErr)
	}
}

// wantRefused checks that a thing is refused by an error that is the code itself, and that there are no bytes beside it.
func (k kind[T]) wantRefused(t *testing.T, v T, want api.Code, what ...any) {
	t.Helper()
	if got, err := k.write(v); err != want || len(got) > 0 {
		t.Fatalf("%s %v: %x, %v, not %v", k.name, what, short(got), err, want)
	}
}

// wantRead checks that bytes are read as a thing.
func (k kind[T]) wantRead(t *testing.T, b []byte, want T, what ...any) {
	t.Helper()
	if got, err := k.read(b); err != nil || !reflect.DeepEqual(got, want) {
		t.Fatalf("%s %v of %x: another one, %v", k.name, what, short(b), err)
	}
}

// wantError checks that bytes are rejected by an error that is the code itself, and that there is nothing beside it.
func (k kind[T]) wantError(t *testing.T, b []byte, want api.Code, what ...any) {
	t.Helper()
	var none T
	if got, err := k.read(b); err != want || !reflect.DeepEqual(got, none) {
		t.Fatalf("%s %v of %x: %v, not %v", k.name, what, short(b), err, want)
	}
}

// wantAsModel checks that bytes are read, or rejected, as the model says.
func (k kind[T]) wantAsModel(t *testing.T, b []byte, what ...any) {
	t.Helper()
	want, err := k.modelRead(b)
	if err != nil {
		k.wantError(t, b, err.(api.Code), what...)
	} else {
		k.wantRead(t, b, want, what...)
	}
}
