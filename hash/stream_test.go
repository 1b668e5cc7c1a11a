package hash_test

import (
	"bytes"
	"math"
	"math/rand"
	"testing"

	"treenail/api"
	"treenail/hash"
)

// streamed is a stream that must be.
func streamed(t *testing.T, key []byte, n int) []byte {
	t.Helper()
	b, err := hash.Stream(key, n)
	if err != nil || len(b) != n {
		t.Fatalf("Stream of a key of %d bytes, %d: %d bytes, %v", len(key), n, len(b), err)
	}
	return b
}

// P5.4: as many bytes as are asked for, about each digest's end.
func TestStreamLengths(t *testing.T) {
	r := rand.New(rand.NewSource(58))
	for _, key := range [][]byte{nil, {}, []byte("k"), some(r, 32), some(r, 100)} {
		for n := range 200 {
			sameBytes(t, streamed(t, key, n), streamOf(key, n), "Stream", key, n)
		}
		for _, n := range []int{255 * 32, 256 * 32, 257*32 + 1, 65536, api.MaxBytes - 1, api.MaxBytes} {
			sameBytes(t, streamed(t, key, n), streamOf(key, n), "Stream", key, n)
		}
	}
}

// P5.4: the stream is Parts of the key and numbers.
func TestStreamIsParts(t *testing.T) {
	key := []byte("key")
	b := streamed(t, key, 300*32)
	for i := range 300 {
		sameBytes(t, b[32*i:32*i+32], hash.Parts(key, number(i)), "piece", i)
	}
}

// P5.4: keys of every length over some blocks.
func TestStreamKeys(t *testing.T) {
	r := rand.New(rand.NewSource(59))
	for k := range 300 {
		key := some(r, k)
		sameBytes(t, streamed(t, key, 100), streamOf(key, 100), "Stream", key)
	}
}

// P5.4: no key is a part of no bytes, nil or not.
func TestStreamWithoutKey(t *testing.T) {
	want := hash.Parts(nil, number(0))
	sameBytes(t, streamed(t, nil, 32), want, "Stream(nil, 32)")
	sameBytes(t, streamed(t, []byte{}, 32), want, "Stream of an empty key")
}

// P5.4: fewer bytes are a beginning of more.
func TestStreamBegins(t *testing.T) {
	for _, key := range [][]byte{nil, []byte("k"), make([]byte, 64)} {
		all := streamed(t, key, api.MaxBytes)
		for _, n := range []int{0, 1, 31, 32, 33, 63, 64, 65, 1000, 4096, api.MaxBytes - 1, api.MaxBytes} {
			sameBytes(t, streamed(t, key, n), all[:n], "Stream", key, n)
		}
	}
}

// P5.4: streams of other keys are other ones, also of keys that differ in zeros only.
func TestStreamOfOtherKeys(t *testing.T) {
	seen := map[string]bool{}
	keys := [][]byte{nil, {0}, {0, 0}, {1}, make([]byte, 64), make([]byte, 65)}
	for _, key := range keys {
		seen[string(streamed(t, key, 64))] = true
	}
	if len(seen) != len(keys) {
		t.Errorf("%d keys have %d streams", len(keys), len(seen))
	}
}

// P5.4, P1: the longest stream by a long key.
func TestStreamByLongKey(t *testing.T) {
	key := bytes.Repeat([]byte("key"), 1<<20)
	b := streamed(t, key, api.MaxBytes)
	for _, i := range []int{0, 1, 12345, api.MaxBytes/32 - 1} {
		sameBytes(t, b[32*i:32*i+32], partsOf(key, number(i)), "piece", i)
	}
}

// P5.4, P1: fewer than no bytes, and more than the bound, whatever the key.
func TestStreamWrong(t *testing.T) {
	for _, key := range [][]byte{nil, {}, []byte("k"), make([]byte, 1000)} {
		for _, n := range []int{-1, -2, -32, math.MinInt, math.MinInt + 1, math.MinInt32, api.MaxBytes + 1, api.MaxBytes + 32, 1 << 21, math.MaxInt32, math.MaxInt - 1, math.MaxInt} {
			b, err := hash.Stream(key, n)
			if err != api.ErrArg || b != nil {
				t.Errorf("Stream(%x, %d): %d bytes, %v", key, n, len(b), err)
			}
		}
	}
}
