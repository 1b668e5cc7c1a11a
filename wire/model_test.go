package wire_test

import (
	"bytes"
	"encoding/binary"
	"slices"

	"treenail/api"
)

// The bounds of the chapter: the greatest count, the limbs of a number, the bytes of a message and of a packet.
const (
	greatest   = 1 << 62
	mostLimbs  = 64
	mostOfMsg  = 1 << 20
	mostOfPack = 1 << 21
)

// What a piece may be.
const (
	isCount  = "count"     // a number that is just what it is
	isLength = "length"    // how many things follow
	isFlag   = "flag"      // a byte 0 or 1
	isLimbs  = "limbs"     // how many limbs follow
	isBytes  = "bytes"     // bytes of limbs, or of a string
	isText   = "text size" // how many bytes follow
)

// piece is what stands by itself in an encoding.
type piece struct {
	is   string
	told []byte
}

// pieces are an encoding, by means that have nothing to do with the package.
type pieces []piece

// count tells a count of some sort.
func (p *pieces) count(is string, n uint64) {
	*p = append(*p, piece{is, binary.AppendUvarint(nil, n)})
}

// flag tells a byte 0 or 1.
func (p *pieces) flag(is bool) {
	b := byte(0)
	if is {
		b = 1
	}
	*p = append(*p, piece{isFlag, []byte{b}})
}

// number tells numbers.
func (p *pieces) number(l ...api.Nat) {
	for _, a := range l {
		var told []byte
		for _, limb := range trimmed(a) {
			told = binary.LittleEndian.AppendUint64(told, limb)
		}
		p.count(isLimbs, uint64(len(told)/8))
		*p = append(*p, piece{isBytes, told})
	}
}

// text tells a string of bytes.
func (p *pieces) text(b []byte) {
	p.count(isText, uint64(len(b)))
	*p = append(*p, piece{isBytes, b})
}

// joined is the encoding.
func (p pieces) joined() []byte {
	var b []byte
	for _, one := range p {
		b = append(b, one.told...)
	}
	return b
}

// with is the encoding with one piece told in another way.
func (p pieces) with(at int, told ...[]byte) []byte {
	return slices.Concat(p[:at].joined(), slices.Concat(told...), p[at+1:].joined())
}

// flagAt is where the flag of an encoding stands.
func flagAt(p pieces) int {
	return slices.IndexFunc(p, func(one piece) bool { return one.is == isFlag })
}

// modelMessage is what the chapter says of a message's encoding.
func modelMessage(m api.Msg) pieces {
	var p pieces
	for _, n := range []int{m.Kind, m.Group, m.Layer, m.Phase, m.Step, m.User} {
		p.count(isCount, uint64(n))
	}
	p.flag(m.Ok)
	p.count(isLength, uint64(len(m.Batch)))
	for _, letter := range m.Batch {
		p.count(isLength, uint64(len(letter)))
		for _, one := range letter {
			p.number(one.A, one.B, one.C)
		}
	}
	p.count(isLength, uint64(len(m.Proofs)))
	for _, l := range m.Proofs {
		p.count(isLength, uint64(len(l)))
		for _, one := range l {
			p.number(one.E, one.Z)
		}
	}
	p.count(isLength, uint64(len(m.Texts)))
	for _, text := range m.Texts {
		p.text(text)
	}
	p.count(isCount, uint64(m.Share.I))
	p.number(m.Share.V)
	return p
}

// modelPacket is what the chapter says of a packet's encoding.
func modelPacket(q api.Packet) pieces {
	var p pieces
	p.count(isCount, uint64(q.From))
	p.count(isCount, uint64(q.To))
	p.count(isCount, q.Seq)
	p.flag(q.Ack)
	p.text(q.Body)
	return p
}

// loose reads bytes without asking whether they are told as they should be: counts may have too many digits, limbs may end in zeros.
type loose struct {
	left []byte
	cut  bool
}

// count reads a count, however it is told.
func (l *loose) count() uint64 {
	n, size := binary.Uvarint(l.left)
	l.cut = l.cut || size <= 0
	l.left = l.left[max(size, 0):]
	return n
}

// bytes reads as many bytes as that.
func (l *loose) bytes(n uint64) []byte {
	if l.cut = l.cut || n > uint64(len(l.left)); l.cut {
		return nil
	}
	b := l.left[:n]
	l.left = l.left[n:]
	return slices.Clone(b)
}

// flag reads a byte, of which each but 0 counts as 1.
func (l *loose) flag() bool {
	b := l.bytes(1)
	return len(b) > 0 && b[0] != 0
}

// number reads a number of any limbs.
func (l *loose) number() api.Nat {
	n := l.count()
	var a api.Nat
	for ; n > 0 && !l.cut; n-- {
		if b := l.bytes(8); b != nil {
			a = append(a, binary.LittleEndian.Uint64(b))
		}
	}
	return a
}

// looseList reads a list.
func looseList[E any](l *loose, element func() E) []E {
	n := l.count()
	var z []E
	for ; n > 0 && !l.cut; n-- {
		z = append(z, element())
	}
	return z
}

// looseMessage reads a message.
func looseMessage(l *loose) api.Msg {
	var m api.Msg
	for _, n := range []*int{&m.Kind, &m.Group, &m.Layer, &m.Phase, &m.Step, &m.User} {
		*n = int(l.count())
	}
	m.Ok = l.flag()
	m.Batch = looseList(l, func() []api.Pair {
		return looseList(l, func() api.Pair {
			a, b := l.number(), l.number()
			return api.Pair{A: a, B: b, C: l.number()}
		})
	})
	m.Proofs = looseList(l, func() []api.Proof {
		return looseList(l, func() api.Proof {
			e := l.number()
			return api.Proof{E: e, Z: l.number()}
		})
	})
	m.Texts = looseList(l, func() []byte { return l.bytes(l.count()) })
	m.Share.I = int(l.count())
	m.Share.V = l.number()
	return m
}

// loosePacket reads a packet.
func loosePacket(l *loose) api.Packet {
	var p api.Packet
	p.From = int(l.count())
	p.To = int(l.count())
	p.Seq = l.count()
	p.Ack = l.flag()
	p.Body = l.bytes(l.count())
	return p
}

// modelWrite is what P11.1 says of a thing.
func (k kind[T]) modelWrite(v T) ([]byte, error) {
	for _, one := range k.counts(&v) {
		if one.wrong() {
			return nil, api.ErrArg
		}
	}
	for _, a := range k.numbers(&v) {
		if len(trimmed(*a)) > mostLimbs {
			return nil, api.ErrLong
		}
	}
	b := k.pieces(v).joined()
	if len(b) > k.most {
		return nil, api.ErrLong
	}
	return b, nil
}

// modelRead is what P11.2 says of bytes: whatever they may be meant to tell, they are an encoding only if that thing's encoding is these bytes.
func (k kind[T]) modelRead(b []byte) (T, error) {
	var none T
	if len(b) > k.most {
		return none, api.ErrLong
	}
	l := &loose{left: b}
	v := k.loose(l)
	if l.cut {
		return none, api.ErrForm
	}
	told, err := k.modelWrite(v)
	switch {
	case err != nil || !bytes.HasPrefix(b, told):
		return none, api.ErrForm
	case len(told) < len(b):
		return none, api.ErrMore
	}
	return k.normal(v), nil
}

// trimmed is a number without zeros at its end, nil if it has no limbs.
func trimmed(a api.Nat) api.Nat {
	z := slices.Clone(a)
	for len(z) > 0 && z[len(z)-1] == 0 {
		z = z[:len(z)-1]
	}
	return filledOrNil(z)
}

// filledOrNil is a list that is nil if it is empty.
func filledOrNil[L ~[]E, E any](l L) L {
	if len(l) == 0 {
		return nil
	}
	return l
}

// mapped is a list of what is made of each element, nil if there are none.
func mapped[E any](l []E, made func(E) E) []E {
	var z []E
	for _, e := range l {
		z = append(z, made(e))
	}
	return z
}

// normalMessage is a message as reading tells it, in memory of its own.
func normalMessage(m api.Msg) api.Msg {
	m.Batch = mapped(m.Batch, func(l []api.Pair) []api.Pair {
		return mapped(l, func(p api.Pair) api.Pair { return api.Pair{A: trimmed(p.A), B: trimmed(p.B), C: trimmed(p.C)} })
	})
	m.Proofs = mapped(m.Proofs, func(l []api.Proof) []api.Proof {
		return mapped(l, func(p api.Proof) api.Proof { return api.Proof{E: trimmed(p.E), Z: trimmed(p.Z)} })
	})
	m.Texts = mapped(m.Texts, func(b []byte) []byte { return filledOrNil(slices.Clone(b)) })
	m.Share.V = trimmed(m.Share.V)
	return m
}

// normalPacket is a packet as reading tells it, in memory of its own.
func normalPacket(p api.Packet) api.Packet {
	p.Body = filledOrNil(slices.Clone(p.Body))
	return p
}
