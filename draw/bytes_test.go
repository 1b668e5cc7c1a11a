package draw_test

import (
	"encoding/hex"
	"strings"
	"testing"

	"treenail/api"
	"treenail/draw"
)

// seeds are seeds of several lengths, that of no bytes and long ones among them.
func seeds() []string {
	long := strings.Repeat("a long seed ", 1000)
	return []string{"", "\x00", "\x00\x00", "s", "t", "seed", "draw", strings.Repeat("x", 31), strings.Repeat("x", 32), strings.Repeat("x", 63), strings.Repeat("x", 64), strings.Repeat("x", 65), long, long[:len(long)-1]}
}

// P6.1: no draw was made at first, whatever the seed.
func TestCountAtFirst(t *testing.T) {
	wantCount(t, draw.New(nil), 0)
	for _, seed := range seeds() {
		wantCount(t, draw.New([]byte(seed)), 0)
	}
}

// P6.1: draws whose bytes were worked out elsewhere.
func TestBytesKnown(t *testing.T) {
	d := draw.New([]byte("s"))
	for i, want := range []string{"", "43", "2c7d965fc0bafb8e44eefe281ecac9fcca8e483cb4a91e56b543aaa7b804b422", "541ddb8c2da4ea96e68765a283e75e2b0da7ba5651f86ac93252159bb79b46b722"} {
		b, err := hex.DecodeString(want)
		if err != nil {
			t.Fatal(err)
		}
		wantBytes(t, d, len(b), b)
		wantCount(t, d, i+1)
	}
	want, err := hex.DecodeString("44914dda5d571bd7845a0f2b3cd16a725481ef6d3fc14663832facd757d3158614242cefda99e41e")
	if err != nil {
		t.Fatal(err)
	}
	wantBytes(t, draw.New(nil), len(want), want)
	wantBytes(t, draw.New([]byte{}), len(want), want)
}

// P6.1: draws of every length, behind one another; each counts once, that of no bytes too.
func TestBytesLengths(t *testing.T) {
	for _, seed := range seeds() {
		d, m := both(seed)
		for i, n := range []int{0, 1, 2, 31, 32, 33, 0, 0, 63, 64, 65, 1000, 4095, 4096, 1, 0, 4096} {
			wantBytes(t, d, n, m.draw(n))
			wantCount(t, d, i+1)
		}
	}
	d, m := both("all lengths")
	for n := range api.MaxDraw + 1 {
		wantBytes(t, d, n, m.draw(n))
	}
	wantCount(t, d, api.MaxDraw+1)
}

// P6.1: counters of more than one byte, and of more than two.
func TestBytesOfLaterDraws(t *testing.T) {
	d, m := both("s")
	for range 66000 {
		wantBytes(t, d, 4, m.draw(4))
	}
	wantCount(t, d, 66000)
}

// P6.1: a shorter draw is the beginning of a longer one in its place.
func TestBytesBegin(t *testing.T) {
	long, err := draw.New([]byte("s")).Bytes(api.MaxDraw)
	if err != nil {
		t.Fatal(err)
	}
	for _, n := range []int{0, 1, 31, 32, 33, 4095} {
		wantBytes(t, draw.New([]byte("s")), n, long[:n])
	}
}

// P6.1: other seeds and other places have other draws.
func TestBytesDiffer(t *testing.T) {
	seen := map[string]bool{}
	for _, seed := range seeds() {
		d := draw.New([]byte(seed))
		for range 20 {
			b, err := d.Bytes(16)
			if err != nil || seen[string(b)] {
				t.Fatalf("the draw %x of seed %q was drawn before; %v", b, seed, err)
			}
			seen[string(b)] = true
		}
	}
}

// P6.1, P6.4, P1: fewer than no bytes, and too many: no draw is made, and the next one is what it would have been.
func TestBytesWrong(t *testing.T) {
	d, m := both("s")
	for i, n := range wrongCounts() {
		b, err := d.Bytes(n)
		wantError(t, "Bytes", len(b), err, api.ErrArg)
		wantCount(t, d, i)
		wantBytes(t, d, 5, m.draw(5))
		wantCount(t, d, i+1)
	}
}
