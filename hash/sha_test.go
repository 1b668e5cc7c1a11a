package hash_test

import (
	"bytes"
	"math/rand"
	"strings"
	"testing"

	"treenail/hash"
)

// P5.1: digests that FIPS 180-4's own examples give.
func TestShaKnown(t *testing.T) {
	for in, want := range map[string]string{
		"": "e3b0c44298fc1c149afbf4c8996fb92427ae41e4649b934ca495991b7852b855",
		"abcdbcdecdefdefgefghfghighijhijkijkljklmklmnlmnomnopnopq":                                                         "248d6a61d20638b8e5c026930c3e6039a33ce45964ff2167f6ecedd419db06c1",
		"abcdefghbcdefghicdefghijdefghijkefghijklfghijklmghijklmnhijklmnoijklmnopjklmnopqklmnopqrlmnopqrsmnopqrstnopqrstu": "cf5b16a778af8380036ce59e7b0492370b249b11e8f07a51afac45037afee9d1",
		strings.Repeat("a", 1000000): "cdc76e5c9914fb9281a1c7e284d73e67f1809a48a497200e046d39ccc7112cd0",
	} {
		sameBytes(t, hash.Sha([]byte(in)), fromHex(t, want), "Sha of so many bytes:", len(in))
	}
}

// P5.1: nil and no bytes are the same, with or without room behind them.
func TestShaOfNothing(t *testing.T) {
	want := shaOf(nil)
	sameBytes(t, hash.Sha(nil), want, "Sha(nil)")
	sameBytes(t, hash.Sha([]byte{}), want, "Sha of no bytes")
	sameBytes(t, hash.Sha([]byte("abc")[:0]), want, "Sha of no bytes before others")
}

// P5.1: every length up to several blocks, of bytes of all kinds.
func TestShaLengths(t *testing.T) {
	r := rand.New(rand.NewSource(51))
	for n := range 400 {
		for _, b := range [][]byte{make([]byte, n), bytes.Repeat([]byte{0xff}, n), bytes.Repeat([]byte{0x80}, n), some(r, n), some(r, n)} {
			sameBytes(t, hash.Sha(b), shaOf(b), "Sha", b)
		}
	}
}

// P5.1: the lengths about which the padding changes, by name.
func TestShaAtTheBlocksEdge(t *testing.T) {
	r := rand.New(rand.NewSource(52))
	for _, n := range edgeLengths() {
		for range 50 {
			b := some(r, n)
			sameBytes(t, hash.Sha(b), shaOf(b), "Sha", b)
		}
	}
}

// P5.1: many blocks.
func TestShaOfManyBlocks(t *testing.T) {
	r := rand.New(rand.NewSource(53))
	for _, n := range []int{4095, 4096, 4097, 65535, 65536, 1<<20 - 1, 1 << 20, 1<<20 + 55, 1<<20 + 56, 5000000} {
		b := some(r, n)
		sameBytes(t, hash.Sha(b), shaOf(b), "Sha of so many bytes:", n)
	}
}

// P5.1: every bit counts.
func TestShaOfOneBit(t *testing.T) {
	for _, n := range []int{1, 55, 56, 64, 65, 130} {
		b := make([]byte, n)
		for i := range 8 * n {
			b[i/8] ^= 1 << (i % 8)
			sameBytes(t, hash.Sha(b), shaOf(b), "Sha", b)
			b[i/8] ^= 1 << (i % 8)
		}
	}
}

// P5.1: digests of digests, where each one's fault would spoil all that follow.
func TestShaChain(t *testing.T) {
	got, want := []byte{}, []byte{}
	for range 10000 {
		got, want = hash.Sha(got), shaOf(want)
	}
	sameBytes(t, got, want, "a chain of digests")
}
