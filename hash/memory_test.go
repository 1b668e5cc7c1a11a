package hash_test

import (
	"bytes"
	"math/rand"
	"slices"
	"sync"
	"testing"

	"treenail/hash"
)

// call is a call with two lists of bytes, of which it may take one.
type call struct {
	name string
	run  func(a, b []byte) []byte
}

// calls are all calls of the package.
func calls() []call {
	return []call{
		{"Sha", func(a, _ []byte) []byte { return hash.Sha(a) }},
		{"Parts", func(a, b []byte) []byte { return hash.Parts(a, b) }},
		{"Parts of one", func(a, _ []byte) []byte { return hash.Parts(a) }},
		{"Mac", hash.Mac},
		{"Stream", func(a, b []byte) []byte { z, _ := hash.Stream(a, len(b)); return z }},
		{"Stream of a digest", func(a, _ []byte) []byte { z, _ := hash.Stream(a, 32); return z }},
		{"Stream that is wrong", func(a, _ []byte) []byte { z, _ := hash.Stream(a, -1); return z }},
	}
}

// roomy is bytes with room behind them that holds something: what a call must not write to.
func roomy(a []byte) []byte {
	b := append(slices.Clone(a), bytes.Repeat([]byte{77}, 200)...)
	return b[:len(a)]
}

// whole is a list with the room behind it.
func whole(a []byte) []byte { return a[:cap(a)] }

// overwrite spoils a list and the room behind it.
func overwrite(a []byte) {
	for i := range whole(a) {
		whole(a)[i] = 0x5d
	}
}

// eachTwo goes through bytes of all edges' lengths, in twos.
func eachTwo(try func(a, b []byte)) {
	r := rand.New(rand.NewSource(60))
	for _, n := range edgeLengths() {
		for _, k := range edgeLengths() {
			try(some(r, n), some(r, k))
		}
	}
}

// R2: arguments stay as they were, also when the answer is written to.
func TestArgumentsStay(t *testing.T) {
	for _, c := range calls() {
		eachTwo(func(a, b []byte) {
			x, y := roomy(a), roomy(b)
			wasX, wasY := slices.Clone(whole(x)), slices.Clone(whole(y))
			overwrite(c.run(x, y))
			if !bytes.Equal(whole(x), wasX) || !bytes.Equal(whole(y), wasY) {
				t.Fatalf("%s(%x, %x): an argument has changed", c.name, a, b)
			}
		})
	}
}

// R2: whoever writes to an argument or to an answer later changes no other answer, neither one given nor one to come.
func TestAnswersAreNew(t *testing.T) {
	for _, c := range calls() {
		eachTwo(func(a, b []byte) {
			x, y := roomy(a), roomy(b)
			first, second := c.run(x, y), c.run(x, y)
			was := slices.Clone(first)
			overwrite(x)
			overwrite(y)
			overwrite(second)
			third := c.run(roomy(a), roomy(b))
			if !bytes.Equal(first, was) || !bytes.Equal(third, was) {
				t.Fatalf("%s(%x, %x): an answer isn't new", c.name, a, b)
			}
		})
	}
}

// R2: the list of the parts stays too, with the room behind it.
func TestListOfPartsStays(t *testing.T) {
	a, b, c := []byte("a"), []byte("bb"), []byte("ccc")
	list := [][]byte{a, nil, b, c, []byte("behind")}
	want := hash.Parts(a, nil, b)
	got := hash.Parts(list[:3]...)
	sameBytes(t, got, want, "Parts of a list")
	overwrite(got)
	for i, p := range [][]byte{[]byte("a"), nil, []byte("bb"), []byte("ccc"), []byte("behind")} {
		sameBytes(t, list[i], p, "part", i)
	}
}

// R2: lists that share memory, and one list as both arguments.
func TestSharedArguments(t *testing.T) {
	r := rand.New(rand.NewSource(61))
	for _, c := range calls() {
		for _, n := range edgeLengths() {
			all := some(r, n)
			want := c.run(slices.Clone(all), slices.Clone(all))
			sameBytes(t, c.run(all, all), want, c.name, "of one list twice")
			want = c.run(slices.Clone(all), slices.Clone(all[n/2:]))
			sameBytes(t, c.run(all, all[n/2:]), want, c.name, "of a list and its end")
		}
	}
}

// A digest has 32 bytes, whatever is asked.
func TestDigestsLength(t *testing.T) {
	eachTwo(func(a, b []byte) {
		for _, d := range [][]byte{hash.Sha(a), hash.Parts(), hash.Parts(a, b), hash.Mac(a, b)} {
			if len(d) != 32 {
				t.Fatalf("a digest of %d bytes", len(d))
			}
		}
	})
}

// The package has no state: many may call it at once.
func TestManyAtOnce(t *testing.T) {
	var group sync.WaitGroup
	for i := range 8 {
		group.Go(func() {
			r := rand.New(rand.NewSource(int64(62 + i)))
			for range 300 {
				a, b := some(r, r.Intn(200)), some(r, r.Intn(200))
				stream, err := hash.Stream(a, len(b))
				if !bytes.Equal(hash.Sha(a), shaOf(a)) || !bytes.Equal(hash.Mac(a, b), macOf(a, b)) || err != nil || !bytes.Equal(stream, streamOf(a, len(b))) {
					t.Errorf("a call is disturbed by others: %x, %x", a, b)
				}
			}
		})
	}
	group.Wait()
}
