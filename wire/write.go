package wire

import "treenail/api"

// writer is an encoding that grows up to a bound. Once it would grow beyond, it is too long, and nothing more is written.
type writer struct {
	out  []byte
	most int
	long bool
}

// written is what was written, unless that is too long.
func (w *writer) written() ([]byte, error) {
	if w.long {
		return nil, api.ErrLong
	}
	return w.out, nil
}

// message writes a message whose numbers are counts.
func (w *writer) message(m api.Msg) {
	for _, n := range [...]int{m.Kind, m.Group, m.Layer, m.Phase, m.Step, m.User} {
		w.count(uint64(n))
	}
	w.flag(m.Ok)
	writeLists(w, m.Batch, func(p api.Pair) { w.numbers(p.A, p.B, p.C) })
	writeLists(w, m.Proofs, func(p api.Proof) { w.numbers(p.E, p.Z) })
	writeList(w, m.Texts, w.text)
	w.count(uint64(m.Share.I))
	w.numbers(m.Share.V)
}

// packet writes a packet whose numbers are counts.
func (w *writer) packet(p api.Packet) {
	w.count(uint64(p.From))
	w.count(uint64(p.To))
	w.count(p.Seq)
	w.flag(p.Ack)
	w.text(p.Body)
}

// writeList writes how many elements a list has, and each of them.
func writeList[E any](w *writer, l []E, element func(e E)) {
	w.count(uint64(len(l)))
	for _, e := range l {
		// A list may have far more elements than there is room for.
		if w.long {
			return
		}
		element(e)
	}
}

// writeLists writes a list of lists.
func writeLists[E any](w *writer, l [][]E, element func(e E)) {
	writeList(w, l, func(inner []E) { writeList(w, inner, element) })
}

// numbers writes numbers, one behind the other.
func (w *writer) numbers(l ...api.Nat) {
	for _, a := range l {
		w.number(a)
	}
}

// number writes a number's limbs that count.
func (w *writer) number(a api.Nat) {
	counting := limbs(a)
	if len(counting) > api.MaxLimbs {
		w.long = true
		return
	}
	w.count(uint64(len(counting)))
	for _, limb := range counting {
		for range limbSize {
			w.put(byte(limb))
			limb >>= 8
		}
	}
}

// text writes how many bytes there are, and these.
func (w *writer) text(b []byte) {
	w.count(uint64(len(b)))
	w.put(b...)
}

// flag writes a byte 0 or 1.
func (w *writer) flag(is bool) {
	if is {
		w.put(1)
	} else {
		w.put(0)
	}
}

// count writes a count.
func (w *writer) count(n uint64) {
	for ; n >= moreFollow; n >>= digitBits {
		w.put(byte(n) | moreFollow)
	}
	w.put(byte(n))
}

// put writes bytes as they are, all of them or none.
func (w *writer) put(b ...byte) {
	if len(b) > w.most-len(w.out) {
		w.long = true
	}
	if !w.long {
		w.out = append(w.out, b...)
	}
}

// limbs is the part of a number that counts; it shares a's memory, so it is for reading only.
func limbs(a api.Nat) api.Nat {
	n := len(a)
	for n > 0 && a[n-1] == 0 {
		n--
	}
	return a[:n]
}
