package hash_test

import (
	"bytes"
	"crypto/sha256"
	"encoding/binary"
	"encoding/hex"
	"math/rand"
	"testing"
)

// edgeLengths are lengths about which a block or its padding changes.
func edgeLengths() []int {
	return []int{0, 1, 2, 31, 32, 33, 54, 55, 56, 57, 62, 63, 64, 65, 66, 118, 119, 120, 121, 127, 128, 129, 183, 184, 191, 192, 200, 1000}
}

// some is n bytes by chance.
func some(r *rand.Rand, n int) []byte {
	b := make([]byte, n)
	r.Read(b)
	return b
}

// fromHex reads hexadecimal digits; spaces don't count.
func fromHex(t *testing.T, s string) []byte {
	t.Helper()
	b, err := hex.DecodeString(string(bytes.ReplaceAll([]byte(s), []byte(" "), nil)))
	if err != nil {
		t.Fatal(err)
	}
	return b
}

// number is 8 bytes in big-endian order.
func number(n int) []byte { return binary.BigEndian.AppendUint64(nil, uint64(n)) }

// shaOf is a digest by means that have nothing to do with the package.
func shaOf(b []byte) []byte {
	d := sha256.Sum256(b)
	return d[:]
}

// partsOf is the digest of parts, by the words of P5.2.
func partsOf(l ...[]byte) []byte {
	var all []byte
	for _, p := range l {
		all = append(all, number(len(p))...)
		all = append(all, p...)
	}
	return shaOf(all)
}

// streamOf is a stream, by the words of P5.4.
func streamOf(key []byte, n int) []byte {
	var all []byte
	for i := 0; len(all) < n; i++ {
		all = append(all, partsOf(key, number(i))...)
	}
	return all[:n]
}

// sameBytes checks an answer.
func sameBytes(t *testing.T, got, want []byte, what string, more ...any) {
	t.Helper()
	if !bytes.Equal(got, want) {
		t.Fatalf("%s %v is %x, not %x", what, more, got, want)
	}
}
