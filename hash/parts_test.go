package hash_test

import (
	"bytes"
	"math/rand"
	"testing"

	"treenail/hash"
)

// P5.2: no part, and parts of no bytes, which aren't the same.
func TestPartsOfNothing(t *testing.T) {
	sameBytes(t, hash.Parts(), hash.Sha(nil), "Parts of no part")
	var none [][]byte
	sameBytes(t, hash.Parts(none...), hash.Sha(nil), "Parts of a nil list")
	sameBytes(t, hash.Parts(nil), hash.Sha(make([]byte, 8)), "Parts(nil)")
	sameBytes(t, hash.Parts([]byte{}), hash.Sha(make([]byte, 8)), "Parts of an empty part")
	sameBytes(t, hash.Parts(nil, []byte{}, nil), hash.Sha(make([]byte, 24)), "Parts of three empty parts")
}

// P5.2: the bytes that are digested, written out.
func TestPartsWrittenOut(t *testing.T) {
	for _, c := range []struct {
		parts []string
		want  string
	}{
		{[]string{"a"}, "\x00\x00\x00\x00\x00\x00\x00\x01a"},
		{[]string{"ab", "c"}, "\x00\x00\x00\x00\x00\x00\x00\x02ab\x00\x00\x00\x00\x00\x00\x00\x01c"},
		{[]string{"", "abc"}, "\x00\x00\x00\x00\x00\x00\x00\x00\x00\x00\x00\x00\x00\x00\x00\x03abc"},
		{[]string{"abc", ""}, "\x00\x00\x00\x00\x00\x00\x00\x03abc\x00\x00\x00\x00\x00\x00\x00\x00"},
		{[]string{"a", "", "", "b"}, "\x00\x00\x00\x00\x00\x00\x00\x01a\x00\x00\x00\x00\x00\x00\x00\x00\x00\x00\x00\x00\x00\x00\x00\x00\x00\x00\x00\x00\x00\x00\x00\x01b"},
	} {
		var l [][]byte
		for _, p := range c.parts {
			l = append(l, []byte(p))
		}
		sameBytes(t, hash.Parts(l...), hash.Sha([]byte(c.want)), "Parts", c.parts)
	}
}

// P5.2: parts of the same bytes behind one another, cut otherwise.
func TestPartsCutOtherwise(t *testing.T) {
	all := []byte("abcdef")
	seen := map[string]int{}
	cuts := 0
	for i := range len(all) + 1 {
		for j := i; j <= len(all); j++ {
			l := [][]byte{all[:i], all[i:j], all[j:]}
			sameBytes(t, hash.Parts(l...), partsOf(l...), "Parts", l)
			seen[string(hash.Parts(l...))]++
			cuts++
		}
		sameBytes(t, hash.Parts(all[:i], all[i:]), partsOf(all[:i], all[i:]), "Parts of two, cut at", i)
		seen[string(hash.Parts(all[:i], all[i:]))]++
		cuts++
	}
	seen[string(hash.Parts(all))]++
	seen[string(hash.Sha(all))]++
	if len(seen) != cuts+2 {
		t.Errorf("%d ways to cut have %d digests", cuts+2, len(seen))
	}
}

// P5.2: the order of the parts counts.
func TestPartsOrder(t *testing.T) {
	a, b := []byte("a"), []byte("b")
	if bytes.Equal(hash.Parts(a, b), hash.Parts(b, a)) {
		t.Error("Parts(a, b) and Parts(b, a) are the same")
	}
}

// P5.2: a part of every edge's length, alone and between others; lengths of more than one byte and of more than two.
func TestPartsLengths(t *testing.T) {
	r := rand.New(rand.NewSource(54))
	for _, n := range append(edgeLengths(), 39, 40, 47, 48, 103, 104, 255, 256, 257, 65535, 65536, 65537, 1<<20+3) {
		b := some(r, n)
		sameBytes(t, hash.Parts(b), partsOf(b), "Parts of a part of so many bytes:", n)
		sameBytes(t, hash.Parts([]byte("x"), b, nil, b), partsOf([]byte("x"), b, nil, b), "Parts of four, of so many bytes:", n)
	}
}

// P5.2: lists of any length, with parts of any length, some of them empty.
func TestPartsLists(t *testing.T) {
	r := rand.New(rand.NewSource(55))
	for count := range 100 {
		var l [][]byte
		for range count {
			l = append(l, some(r, r.Intn(5)*r.Intn(30)))
		}
		sameBytes(t, hash.Parts(l...), partsOf(l...), "Parts", l)
	}
	many := make([][]byte, 20000)
	for i := range many {
		many[i] = some(r, i%7)
	}
	sameBytes(t, hash.Parts(many...), partsOf(many...), "Parts of many")
}
