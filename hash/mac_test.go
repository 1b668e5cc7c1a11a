package hash_test

import (
	"bytes"
	"crypto/hmac"
	"crypto/sha256"
	"math/rand"
	"testing"

	"treenail/hash"
)

// macOf is a digest by a key, by means that have nothing to do with the package.
func macOf(key, b []byte) []byte {
	m := hmac.New(sha256.New, key)
	m.Write(b)
	return m.Sum(nil)
}

// P5.3: RFC 4231's own examples, of short keys and of one of more than a block.
func TestMacKnown(t *testing.T) {
	for _, c := range []struct {
		key, b []byte
		want   string
	}{
		{bytes.Repeat([]byte{0x0b}, 20), []byte("Hi There"), "b0344c61d8db38535ca8afceaf0bf12b881dc200c9833da726e9376c2e32cff7"},
		{[]byte("Jefe"), []byte("what do ya want for nothing?"), "5bdcc146bf60754e6a042426089575c75a003f089d2739839dec58b964ec3843"},
		{bytes.Repeat([]byte{0xaa}, 20), bytes.Repeat([]byte{0xdd}, 50), "773ea91e36800e46854db8ebd09181a72959098b3ef8c122d9635514ced565fe"},
		{bytes.Repeat([]byte{0xaa}, 131), []byte("Test Using Larger Than Block-Size Key - Hash Key First"), "60e431591ee0b67f0d8a26aacbf5b77f8e0bc6213728c5140546040f0ee37f54"},
	} {
		sameBytes(t, hash.Mac(c.key, c.b), fromHex(t, c.want), "Mac", c.key, c.b)
	}
}

// P5.3: no key, no bytes, nil or not.
func TestMacOfNothing(t *testing.T) {
	want := fromHex(t, "b613679a0814d9ec772f95d778c35fc5ff1697c493715653c6c712144292c5ad")
	for _, key := range [][]byte{nil, {}} {
		for _, b := range [][]byte{nil, {}} {
			sameBytes(t, hash.Mac(key, b), want, "Mac of nothing")
		}
	}
	sameBytes(t, hash.Mac(nil, []byte("abc")), macOf(nil, []byte("abc")), "Mac(nil, abc)")
	sameBytes(t, hash.Mac([]byte("abc"), nil), macOf([]byte("abc"), nil), "Mac(abc, nil)")
}

// P5.3: keys and bytes of every edge's length.
func TestMacLengths(t *testing.T) {
	r := rand.New(rand.NewSource(56))
	for _, k := range edgeLengths() {
		for _, n := range edgeLengths() {
			for range 3 {
				key, b := some(r, k), some(r, n)
				sameBytes(t, hash.Mac(key, b), macOf(key, b), "Mac", key, b)
			}
		}
	}
	key, b := some(r, 70000), some(r, 1<<20+1)
	sameBytes(t, hash.Mac(key, b), macOf(key, b), "Mac of much by a long key")
}

// P5.3: every length of a key, of zeros and of bytes with all bits.
func TestMacKeys(t *testing.T) {
	b := []byte("some bytes")
	for n := range 210 {
		for _, key := range [][]byte{make([]byte, n), bytes.Repeat([]byte{0xff}, n), bytes.Repeat([]byte{0x36}, n), bytes.Repeat([]byte{0x5c}, n)} {
			sameBytes(t, hash.Mac(key, b), macOf(key, b), "Mac", key, b)
		}
	}
}

// P5.3: a key of a block is taken as it is, a longer one by its digest; a shorter one is followed by zeros.
func TestMacAtTheBlocksEdge(t *testing.T) {
	r := rand.New(rand.NewSource(57))
	b := []byte("some bytes")
	for _, n := range []int{63, 64, 65, 200} {
		key := some(r, n)
		byDigest := bytes.Equal(hash.Mac(key, b), hash.Mac(hash.Sha(key), b))
		if byDigest != (n > 64) {
			t.Errorf("a key of %d bytes: taken by its digest: %v", n, byDigest)
		}
	}
	short := some(r, 63)
	sameBytes(t, hash.Mac(short, b), hash.Mac(append(short, 0), b), "Mac by a key and a zero")
}
