package hash

import (
	"bytes"
	"math/big"
	"testing"
)

// fraction is the first 32 bits behind the point of a prime's k-th root: the greatest number whose k-th power is at most the prime times 2^(32 k), modulo 2^32.
func fraction(p int64, k int64) uint32 {
	limit := new(big.Int).Lsh(big.NewInt(p), uint(32*k))
	root := new(big.Int)
	for bit := 40; bit >= 0; bit-- {
		root.SetBit(root, bit, 1)
		if new(big.Int).Exp(root, big.NewInt(k), nil).Cmp(limit) > 0 {
			root.SetBit(root, bit, 0)
		}
	}
	return uint32(root.Uint64())
}

// P5.1: the tables' words, worked out from what the chapter says of them.
func TestTables(t *testing.T) {
	n := 0
	for p := int64(2); n < 64; p++ {
		if !big.NewInt(p).ProbablyPrime(20) {
			continue
		}
		if n < 8 && startWords[n] != fraction(p, 2) {
			t.Errorf("word %d of the start is %08x", n, startWords[n])
		}
		if roundWords[n] != fraction(p, 3) {
			t.Errorf("word %d of the rounds is %08x", n, roundWords[n])
		}
		n++
	}
}

// P5.1: the padding of all tails, at lengths whose bits need more than 32 bits too, which would be too many bytes to digest here.
func TestPadded(t *testing.T) {
	for size := range blockSize {
		tail := bytes.Repeat([]byte{0xa5}, size)
		for _, blocks := range []uint64{0, 1, 3, 1 << 20, 1<<23 - 1, 1 << 23, 1<<25 - 1} {
			length := blocks*blockSize + uint64(size)
			want := append(bytes.Clone(tail), 0x80)
			for len(want)%64 != 56 {
				want = append(want, 0)
			}
			for shift := 56; shift >= 0; shift -= 8 {
				want = append(want, byte(8*length>>shift))
			}
			if got := padded(tail, length); !bytes.Equal(got, want) {
				t.Fatalf("a tail of %d bytes of %d: padded to %x, not %x", size, length, got, want)
			}
		}
	}
}

// P5.2: lengths and numbers of 8 bytes, at each byte's end.
func TestEightBytes(t *testing.T) {
	for _, n := range []uint64{0, 1, 255, 256, 1 << 31, 1<<32 - 1, 1 << 32, 1<<56 - 1, 1 << 56, 0x0102030405060708, 1<<64 - 1} {
		want := new(big.Int).SetUint64(n).FillBytes(make([]byte, 8))
		if got := eightBytes(n); !bytes.Equal(got, want) {
			t.Errorf("%x is %x", n, got)
		}
	}
}
