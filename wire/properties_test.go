package wire_test

import (
	"bytes"
	"math/rand"
	"slices"
	"sync"
	"testing"
)

// wantBack checks that what was written is read as it was, but for zeros and empty lists, and is written again as the same bytes.
func (k kind[T]) wantBack(t *testing.T, v T) {
	t.Helper()
	b, err := k.write(v)
	if err != nil {
		t.Fatal(err, v)
	}
	k.wantRead(t, b, k.normal(v), v)
	got, err := k.read(b)
	if err != nil {
		t.Fatal(err, v)
	}
	again, err := k.write(got)
	if err != nil || !bytes.Equal(again, b) {
		t.Fatalf("%s %v: %x, and then %x, %v", k.name, v, b, again, err)
	}
}

// testBack checks samples, any others, and such at the greatest size.
func testBack[T any](t *testing.T, k kind[T]) {
	r := rand.New(rand.NewSource(440))
	for _, v := range k.samples {
		k.wantBack(t, v)
		k.wantBack(t, k.ofSize(t, v, k.most))
	}
	for range 3000 {
		k.wantBack(t, k.some(r))
	}
}

// P11.3: reading inverts writing.
func TestReadInvertsWrite(t *testing.T) {
	testBack(t, messages())
	testBack(t, packets())
}

// spoiled are bytes with something changed in one place: a byte or a bit, a byte more or less, a part twice or left out.
func spoiled(r *rand.Rand, b []byte) []byte {
	if len(b) == 0 {
		return []byte{byte(r.Intn(256))}
	}
	i := r.Intn(len(b))
	j := i + r.Intn(len(b)-i)
	edges := []byte{0, 1, 2, 8, 63, 64, 65, 127, 128, 129, 255}
	one := edges[r.Intn(len(edges))]
	switch r.Intn(7) {
	case 0:
		return slices.Concat(b[:i], []byte{one}, b[i+1:])
	case 1:
		return slices.Concat(b[:i], []byte{b[i] ^ 1<<r.Intn(8)}, b[i+1:])
	case 2:
		return slices.Concat(b[:i], []byte{one}, b[i:])
	case 3:
		return slices.Concat(b[:i], b[i+1:])
	case 4:
		return slices.Concat(b[:j], b[i:])
	case 5:
		return slices.Concat(b[:i], b[j:])
	}
	return slices.Concat(b[:i], someBytes(r, r.Intn(10)), b[i:])
}

// wantCanonical checks bytes against the model, and that, if they are read, they are written again.
func (k kind[T]) wantCanonical(t *testing.T, b []byte) bool {
	t.Helper()
	k.wantAsModel(t, b)
	v, err := k.read(b)
	if err != nil {
		return false
	}
	again, err := k.write(v)
	if err != nil || !bytes.Equal(again, b) {
		t.Fatalf("%s of %x: written again as %x, %v", k.name, short(b), short(again), err)
	}
	return true
}

// testSpoiled changes encodings in a few places, and counts how many are read all the same.
func testSpoiled[T any](t *testing.T, k kind[T]) {
	r := rand.New(rand.NewSource(441))
	read := 0
	for range 6000 {
		v := k.some(r)
		if r.Intn(2) == 0 {
			v = k.samples[r.Intn(len(k.samples))]
		}
		b := k.pieces(v).joined()
		for range 1 + r.Intn(4) {
			b = spoiled(r, b)
			if k.wantCanonical(t, b) {
				read++
			}
		}
	}
	if read < 500 {
		t.Fatalf("only %d were read", read)
	}
}

// P11.2, P11.3: encodings that were changed are read as the chapter says; each that is read is written again as it is.
func TestSpoiled(t *testing.T) {
	testSpoiled(t, messages())
	testSpoiled(t, packets())
}

// testAny checks bytes at random, most of them small, since those come further.
func testAny[T any](t *testing.T, k kind[T]) {
	r := rand.New(rand.NewSource(442))
	for range 30000 {
		b := someBytes(r, r.Intn(60))
		k.wantCanonical(t, b)
		few := []byte{0, 0, 0, 1, 1, 2, 3, 128, 255}
		for i := range b {
			b[i] = few[r.Intn(len(few))]
		}
		k.wantCanonical(t, b)
		// No count here is 0 at first, so that there is something in each list.
		k.wantCanonical(t, slices.Concat(slices.Repeat([]byte{1}, r.Intn(12)), b))
	}
}

// P1, P11.2, P11.3: bytes at random.
func TestAny(t *testing.T) {
	testAny(t, messages())
	testAny(t, packets())
}

// eachOf goes through all strings of at most n bytes from a few.
func eachOf(few []byte, n int, do func(b []byte)) {
	b := make([]byte, 0, n)
	var more func()
	more = func() {
		do(slices.Clone(b))
		if len(b) == n {
			return
		}
		for _, one := range few {
			b = append(b, one)
			more()
			b = b[:len(b)-1]
		}
	}
	more()
}

// P11.2, P11.3: all packets of a few bytes.
func TestAllShortPackets(t *testing.T) {
	k := packets()
	eachOf([]byte{0, 1, 2, 127, 128, 129, 255}, 6, func(b []byte) { k.wantCanonical(t, b) })
	eachOf([]byte{0, 1, 128}, 9, func(b []byte) { k.wantCanonical(t, b) })
}

// P11.2, P11.3: all messages of a few bytes behind the first ones, which are counts.
func TestAllShortMessages(t *testing.T) {
	k := messages()
	eachOf([]byte{0, 1, 2}, 9, func(b []byte) { k.wantCanonical(t, append([]byte{0, 1, 2, 3, 4, 5}, b...)) })
	eachOf([]byte{0, 1, 128, 255}, 7, func(b []byte) { k.wantCanonical(t, append([]byte{128, 1, 0, 0, 0, 0, 9}, b...)) })
}

// wantSame checks a thing and bytes, each against what came of them before.
func (k kind[T]) wantSame(t *testing.T, v T, want, b []byte) {
	t.Helper()
	got, err := k.write(v)
	if err != nil || !bytes.Equal(got, want) {
		t.Errorf("%s %v: %x, %v", k.name, v, got, err)
	}
	k.wantAsModel(t, want)
	k.wantAsModel(t, b)
}

// testSame calls again and again, with other calls between, wrong ones among them.
func testSame[T any](t *testing.T, k kind[T]) {
	r := rand.New(rand.NewSource(443))
	for _, v := range k.samples {
		want := k.pieces(v).joined()
		for range 5 {
			k.wantSame(t, v, want, spoiled(r, want))
			other := k.some(r)
			k.counts(&other)[0].set(ones)
			k.wantWritten(t, other)
			k.wantWritten(t, k.some(r))
		}
	}
}

// R3, and the package's own: the same call answers the same, whatever was called between.
func TestSameCallSameAnswer(t *testing.T) {
	testSame(t, messages())
	testSame(t, packets())
}

// testAtOnce calls from many sides at once, all with the same arguments.
func testAtOnce[T any](t *testing.T, k kind[T]) {
	r := rand.New(rand.NewSource(444))
	for range 20 {
		v := k.some(r)
		want := k.pieces(v).joined()
		wrong := spoiled(r, want)
		var all sync.WaitGroup
		for range 8 {
			all.Go(func() {
				for range 5 {
					got, err := k.write(v)
					if err != nil || !bytes.Equal(got, want) {
						t.Errorf("%s %v, many at once: %x, %v", k.name, v, got, err)
					}
					back, err := k.read(want)
					if again, _ := k.write(back); err != nil || !bytes.Equal(again, want) {
						t.Errorf("%s %x, many at once: %v, %v", k.name, want, back, err)
					}
					_, wantErr := k.modelRead(wrong)
					if _, err := k.read(wrong); err != wantErr {
						t.Errorf("%s %x, many at once: %v, not %v", k.name, wrong, err, wantErr)
					}
				}
			})
		}
		all.Wait()
	}
}

// The layer keeps nothing from call to call: many callers at once get what one alone gets.
func TestManyAtOnce(t *testing.T) {
	testAtOnce(t, messages())
	testAtOnce(t, packets())
}
