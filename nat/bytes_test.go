package nat_test

import (
	"bytes"
	"math"
	"math/big"
	"math/rand"
	"testing"

	"treenail/api"
	"treenail/nat"
)

// P1.3
func TestFrom(t *testing.T) {
	for _, b := range [][]byte{
		nil, {}, {0}, {0, 0, 0, 0, 0, 0, 0, 0, 0}, {1}, {1, 0}, {0, 1, 2},
		{1, 2, 3, 4, 5, 6, 7, 8}, {1, 2, 3, 4, 5, 6, 7, 8, 9}, {0xff, 0, 0, 0, 0, 0, 0, 0, 0, 0x80},
		make([]byte, 512), bytes.Repeat([]byte{0xff}, 512), bytes.Repeat([]byte{0xff}, 511),
	} {
		got, err := nat.From(b)
		if err != nil {
			t.Errorf("From(%x): %v", b, err)
		}
		wantNumber(t, "From", got, new(big.Int).SetBytes(b))
	}
	r := rand.New(rand.NewSource(13))
	for n := range 513 {
		b := make([]byte, n)
		r.Read(b)
		got, err := nat.From(b)
		if err != nil {
			t.Errorf("From(%x): %v", b, err)
		}
		wantNumber(t, "From", got, new(big.Int).SetBytes(b))
	}
}

// P1.3: the bound counts leading zeros.
func TestFromTooManyBytes(t *testing.T) {
	for _, b := range [][]byte{make([]byte, 513), append(make([]byte, 512), 1), bytes.Repeat([]byte{0xff}, 513), make([]byte, 5000)} {
		got, err := nat.From(b)
		wantError(t, "From", err, api.ErrLong, got)
	}
}

// P1.3
func TestBytes(t *testing.T) {
	for _, a := range append(edges(), power(8*1023), full(128), padded(full(128), 3)) {
		least := (toBig(a).BitLen() + 7) / 8
		for _, n := range []int{least - 1, least, least + 1, 0, 1, 7, 8, 9, 511, 512, 513, 1023, 1024} {
			if n < 0 || n > 1024 {
				continue
			}
			got, err := nat.Bytes(a, n)
			if n < least {
				wantBytesError(t, got, err, api.ErrLong)
				continue
			}
			if want := toBig(a).FillBytes(make([]byte, n)); err != nil || !bytes.Equal(got, want) {
				t.Errorf("Bytes(%x, %d) is %x, %v", a, n, got, err)
			}
		}
	}
}

// P1.3: numbers that just fit into n bytes, and that just don't.
func TestBytesThatJustFit(t *testing.T) {
	for n := range 1025 {
		least := power(8 * n)
		got, err := nat.Bytes(least, n)
		wantBytesError(t, got, err, api.ErrLong)
		greatest := fromBig(new(big.Int).Sub(toBig(least), big.NewInt(1)))
		got, err = nat.Bytes(greatest, n)
		if err != nil || !bytes.Equal(got, bytes.Repeat([]byte{0xff}, n)) {
			t.Errorf("2^%d - 1 in %d bytes is %x, %v", 8*n, n, got, err)
		}
	}
}

// P1.3: ErrArg comes ahead of ErrLong.
func TestBytesOfWrongLengths(t *testing.T) {
	for _, n := range []int{-1, -8, math.MinInt, 1025, 1032, math.MaxInt} {
		for _, a := range []api.Nat{nil, {1}, full(64), full(128), full(129), full(2000)} {
			got, err := nat.Bytes(a, n)
			wantBytesError(t, got, err, api.ErrArg)
		}
	}
	for _, a := range []api.Nat{full(129), power(8 * 1024), full(2000)} {
		got, err := nat.Bytes(a, 1024)
		wantBytesError(t, got, err, api.ErrLong)
	}
}

func wantBytesError(t *testing.T, got []byte, err error, want api.Code) {
	t.Helper()
	if err != want || len(got) != 0 {
		t.Errorf("%x and error %v, not %v", got, err, want)
	}
}
