package prime_test

import (
	"testing"

	"treenail/prime"
)

// P3.1: every number below the bound, and as many above it.
func TestSmall(t *testing.T) {
	for n := uint64(0); n < 2*65536; n++ {
		if got, want := prime.Small(n), n < 65536 && isPrime(n); got != want {
			t.Errorf("Small(%d) is %v", n, got)
		}
	}
}

// P3.1: the edges by name: squares of primes, the numbers about the bound, and primes far above it.
func TestSmallEdges(t *testing.T) {
	for _, n := range []uint64{2, 3, 5, 251, 257, 65519, 65521} {
		if !prime.Small(n) {
			t.Errorf("Small(%d) is false", n)
		}
	}
	for _, n := range []uint64{
		0, 1, 4, 9, 25, 121, 63001, 251 * 257, 65533, 65535, 65536, 65537, 65539, 257 * 257,
		1<<31 - 1, 1<<32 - 5, 1<<32 + 2, 1<<32 + 3, 1<<61 - 1, 1<<63 + 29, ones - 58, ones - 1, ones,
	} {
		if prime.Small(n) {
			t.Errorf("Small(%d) is true", n)
		}
	}
}
