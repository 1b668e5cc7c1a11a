package group

import (
	"testing"

	"treenail/api"
)

// P4.3: no prime is a power of 256, so what Size answers of one is asked here of the function behind it.
func TestBytesWithin(t *testing.T) {
	for _, c := range []struct {
		a    api.Nat
		want int
	}{
		{nil, 0}, {api.Nat{0}, 0}, {api.Nat{1}, 0}, {api.Nat{2}, 0}, {api.Nat{255}, 0}, {api.Nat{256}, 1}, {api.Nat{257}, 1}, {api.Nat{256, 0}, 1},
		{api.Nat{65535}, 1}, {api.Nat{65536}, 2}, {api.Nat{65537}, 2}, {api.Nat{1<<56 - 1}, 6}, {api.Nat{1 << 56}, 7},
		{api.Nat{1<<64 - 1}, 7}, {api.Nat{0, 1}, 8}, {api.Nat{1, 1}, 8}, {api.Nat{1<<64 - 1, 255}, 8}, {api.Nat{0, 256}, 9},
	} {
		if got := bytesWithin(c.a); got != c.want {
			t.Errorf("%x has room for %d bytes, not %d", c.a, got, c.want)
		}
	}
}
