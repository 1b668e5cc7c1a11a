package draw_test

import (
	"crypto/sha256"
	"encoding/binary"
	"math"
	"math/big"
	"slices"
	"testing"

	"treenail/api"
	"treenail/draw"
)

const ones = 1<<64 - 1

// model is a generator by the words of the chapter, by means that have nothing to do with the package.
type model struct {
	seed    []byte
	counter int
}

// digest is the digest of parts, by the words of layer 5.
func digest(l ...[]byte) []byte {
	h := sha256.New()
	for _, p := range l {
		h.Write(binary.BigEndian.AppendUint64(nil, uint64(len(p))))
		h.Write(p)
	}
	return h.Sum(nil)
}

// eightBytes is a number as 8 bytes in big-endian order.
func eightBytes(n int) []byte { return binary.BigEndian.AppendUint64(nil, uint64(n)) }

// draw is a draw of n bytes.
func (m *model) draw(n int) []byte {
	key := digest([]byte("draw"), m.seed, eightBytes(m.counter))
	m.counter++
	var stream []byte
	for i := 0; len(stream) < n; i++ {
		stream = append(stream, digest(key, eightBytes(i))...)
	}
	return stream[:n]
}

// below is a number below another one, which isn't 0.
func (m *model) below(bound *big.Int) *big.Int {
	greatest := new(big.Int).Sub(bound, big.NewInt(1))
	width := greatest.BitLen()
	size := (width + 7) / 8
	if size == 0 {
		size = 1
	}
	z := new(big.Int)
	for range 256 {
		z.SetBytes(m.draw(size))
		for i := width; i < 8*size; i++ {
			z.SetBit(z, i, 0)
		}
		if z.Cmp(bound) < 0 {
			return z
		}
	}
	return z.SetBit(z, width-1, 0)
}

// perm is a permutation of n numbers.
func (m *model) perm(n int) []int {
	var p []int
	for i := range n {
		p = append(p, i)
	}
	for i := n - 1; i >= 1; i-- {
		j := m.below(big.NewInt(int64(i) + 1)).Int64()
		p[i], p[j] = p[j], p[i]
	}
	return p
}

// both is a generator and the model of it.
func both(seed string) (*draw.Draws, *model) {
	return draw.New([]byte(seed)), &model{seed: []byte(seed)}
}

// full is the number of n limbs with all bits set.
func full(n int) api.Nat { return slices.Repeat(api.Nat{ones}, n) }

// power is 2 to the k.
func power(k int) api.Nat {
	a := make(api.Nat, k/64+1)
	a[k/64] = 1 << (k % 64)
	return a
}

// padded is a number told with n zeros at its end.
func padded(a api.Nat, n int) api.Nat { return append(slices.Clone(a), make(api.Nat, n)...) }

// toBig reads a number.
func toBig(a api.Nat) *big.Int {
	z := new(big.Int)
	for _, limb := range slices.Backward(a) {
		z.Lsh(z, 64)
		z.Or(z, new(big.Int).SetUint64(limb))
	}
	return z
}

// fromBig tells a number, without zeros at its end.
func fromBig(a *big.Int) api.Nat {
	var z api.Nat
	for rest := new(big.Int).Set(a); rest.Sign() > 0; rest.Rsh(rest, 64) {
		z = append(z, new(big.Int).And(rest, new(big.Int).SetUint64(ones)).Uint64())
	}
	return z
}

// bounds are numbers below which others can be drawn, about the edges of bytes and of limbs.
func bounds() []api.Nat {
	l := []api.Nat{{1}, {2}, {3}, {5}, {127}, {128}, {129}, {200}, {255}, {256}, {257}, {50273}, {65535}, {65536}, {65537}, {895270319}, {ones - 1}, {ones}, {0, 1}, {1, 1}, {2, 1}, {ones, ones}, {0, 0, 1}, {1, 0, 1}}
	for _, k := range []int{7, 9, 15, 17, 63, 65, 127, 200, 255, 256, 1023, 2040, 2047} {
		m := new(big.Int).Lsh(big.NewInt(1), uint(k))
		for _, more := range []int64{-1, 0, 1} {
			l = append(l, fromBig(new(big.Int).Add(m, big.NewInt(more))))
		}
	}
	return append(l, full(31), full(32), padded(api.Nat{1}, 100), padded(api.Nat{200}, 40), padded(full(32), 1), padded(power(2047), 64))
}

// wrongBounds are numbers below which nothing is drawn, with the errors that tell so.
func wrongBounds() []wrongBound {
	return []wrongBound{
		{nil, api.ErrArg}, {api.Nat{}, api.ErrArg}, {api.Nat{0}, api.ErrArg}, {make(api.Nat, 32), api.ErrArg}, {make(api.Nat, 33), api.ErrArg}, {make(api.Nat, 1000), api.ErrArg},
		{power(2048), api.ErrLong}, {full(33), api.ErrLong}, {padded(power(2048), 3), api.ErrLong}, {full(64), api.ErrLong}, {full(65), api.ErrLong}, {full(1000), api.ErrLong},
	}
}

// wrongBound is a number and an error.
type wrongBound struct {
	m    api.Nat
	want api.Code
}

// wrongCounts are how many things can't be asked for.
func wrongCounts() []int {
	return []int{-1, -2, -4096, math.MinInt32, math.MinInt, 4097, 4098, api.MaxBytes, math.MaxInt32, math.MaxInt - 1, math.MaxInt}
}

// wantBytes checks an answer of Bytes.
func wantBytes(t *testing.T, d *draw.Draws, n int, want []byte) {
	t.Helper()
	got, err := d.Bytes(n)
	if err != nil || !slices.Equal(got, want) {
		t.Fatalf("Bytes(%d) is %x, not %x; %v", n, got, want, err)
	}
}

// wantBelow checks an answer of Below, and that it has no zeros at its end.
func wantBelow(t *testing.T, d *draw.Draws, m api.Nat, want *big.Int) {
	t.Helper()
	got, err := d.Below(m)
	if err != nil || !slices.Equal(got, fromBig(want)) {
		t.Fatalf("Below(%x) is %x, not %x; %v", m, got, want, err)
	}
}

// wantCount checks how many draws were made.
func wantCount(t *testing.T, d *draw.Draws, want int) {
	t.Helper()
	if got := d.Count(); got != want {
		t.Fatalf("Count is %d, not %d", got, want)
	}
}

// wantError checks that an error is the plain code, and that beside it is a list of no things.
func wantError(t *testing.T, what string, size int, err error, want api.Code) {
	t.Helper()
	if err != want || size != 0 {
		t.Fatalf("%s: error %v, not %v, and %d things", what, err, want, size)
	}
}
