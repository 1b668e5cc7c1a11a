package wire

import "treenail/api"

// How counts and limbs are written: the bits of a count's digit, the bit that says that another digit follows, the bytes of the greatest count and of a limb.
const (
	digitBits  = 7
	moreFollow = 1 << digitBits
	countSize  = 9
	limbSize   = 8
)

// reader reads bytes from the front on. Once something is amiss it is bad, nothing is left, and what it still reads means nothing.
type reader struct {
	left []byte
	bad  bool
}

// fail makes the reader bad. Nothing is left then, so that whatever goes on to read comes to its end soon.
func (r *reader) fail() { r.left, r.bad = nil, true }

// message reads a message. The calls in the literal are made in the order in which they stand: it is that of the encoding.
func (r *reader) message() api.Msg {
	pair := func() api.Pair { return api.Pair{A: r.number(), B: r.number(), C: r.number()} }
	proof := func() api.Proof { return api.Proof{E: r.number(), Z: r.number()} }
	text := func() []byte { return r.text() }
	return api.Msg{
		Kind: r.integer(), Group: r.integer(), Layer: r.integer(), Phase: r.integer(), Step: r.integer(), User: r.integer(),
		Ok:     r.flag(),
		Batch:  readLists(r, pair),
		Proofs: readLists(r, proof),
		Texts:  readList(r, text),
		Share:  api.Share{I: r.integer(), V: r.number()},
	}
}

// packet reads a packet, in the order in which the calls stand, too.
func (r *reader) packet() api.Packet {
	return api.Packet{From: r.integer(), To: r.integer(), Seq: r.count(maxCount), Ack: r.flag(), Body: r.text()}
}

// readList reads how many elements a list has, and each of them.
func readList[E any](r *reader, element func() E) []E {
	var l []E
	// No room is made ahead: a list may say that it has far more elements than there are bytes.
	for n := r.count(maxCount); n > 0 && !r.bad; n-- {
		l = append(l, element())
	}
	return l
}

// readLists reads a list of lists.
func readLists[E any](r *reader, element func() E) [][]E {
	return readList(r, func() []E { return readList(r, element) })
}

// number reads a number.
func (r *reader) number() api.Nat {
	b := r.take(limbSize * r.count(api.MaxLimbs))
	if len(b) == 0 {
		return nil
	}
	a := make(api.Nat, len(b)/limbSize)
	for i, one := range b {
		a[i/limbSize] |= uint64(one) << (8 * (i % limbSize))
	}
	if a[len(a)-1] == 0 {
		r.fail()
	}
	return a
}

// text reads a string of bytes, into memory of its own.
func (r *reader) text() []byte { return append([]byte(nil), r.take(r.count(maxCount))...) }

// integer reads a number that is written as a count.
func (r *reader) integer() int { return int(r.count(maxCount)) }

// flag reads a byte 0 or 1, which is told just as the counts 0 and 1 are.
func (r *reader) flag() bool { return r.count(1) == 1 }

// count reads a count that is at most so great.
func (r *reader) count(most uint64) uint64 {
	var n uint64
	for i, b := range r.left[:min(len(r.left), countSize)] {
		n |= uint64(b&^moreFollow) << (digitBits * i)
		if b >= moreFollow {
			continue
		}
		// A highest digit that is 0 would have been left out, unless it is the only one.
		if b == 0 && i > 0 || n > most {
			break
		}
		r.left = r.left[i+1:]
		return n
	}
	r.fail()
	return 0
}

// take takes n bytes off; they share their memory with what is read, so they are for reading only.
func (r *reader) take(n uint64) []byte {
	if n > uint64(len(r.left)) {
		r.fail()
		return nil
	}
	b := r.left[:n]
	r.left = r.left[n:]
	return b
}
