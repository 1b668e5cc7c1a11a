package nat_test

import (
	"slices"
	"testing"

	"treenail/api"
	"treenail/nat"
)

// call is a call with two numbers as arguments, and its answers that are numbers.
type call struct {
	name string
	run  func(a, b api.Nat) []api.Nat
}

// calls are all calls that take numbers.
func calls() []call {
	return []call{
		{"Norm", func(a, b api.Nat) []api.Nat { return []api.Nat{nat.Norm(a), nat.Norm(b)} }},
		{"Cmp", func(a, b api.Nat) []api.Nat { nat.Cmp(a, b); return nil }},
		{"Bits", func(a, b api.Nat) []api.Nat { nat.Bits(a); nat.Bit(b, 3); return nil }},
		{"Add", func(a, b api.Nat) []api.Nat { z, _ := nat.Add(a, b); return []api.Nat{z} }},
		{"Sub", func(a, b api.Nat) []api.Nat { z, _ := nat.Sub(a, b); return []api.Nat{z} }},
		{"Mul", func(a, b api.Nat) []api.Nat { z, _ := nat.Mul(a, b); return []api.Nat{z} }},
		{"Div", func(a, b api.Nat) []api.Nat { q, r, _ := nat.Div(a, b); return []api.Nat{q, r} }},
		{"Bytes", func(a, b api.Nat) []api.Nat { nat.Bytes(a, 512); nat.Bytes(b, 0); return nil }},
	}
}

// roomy is a number with room behind it that holds something: what a call must not write to.
func roomy(a api.Nat) api.Nat {
	b := append(slices.Clone(a), 77, 78, 79)
	return b[:len(a)]
}

// whole is a list with the room behind it.
func whole(a api.Nat) api.Nat { return a[:cap(a)] }

// overwrite spoils a list and the room behind it.
func overwrite(a api.Nat) {
	for i := range whole(a) {
		whole(a)[i] = 0xdead
	}
}

// copies clones each list of several.
func copies(l []api.Nat) []api.Nat {
	var out []api.Nat
	for _, a := range l {
		out = append(out, slices.Clone(a))
	}
	return out
}

// P1.4, R2: arguments stay as they were, and whoever writes to an answer writes to that answer alone.
func TestArgumentsStay(t *testing.T) {
	for _, c := range calls() {
		eachPairOfEdges(func(a, b api.Nat) {
			x, y := roomy(a), roomy(b)
			wasX, wasY := slices.Clone(whole(x)), slices.Clone(whole(y))
			answers := c.run(x, y)
			before := copies(answers)
			for i := range answers {
				overwrite(answers[i])
				for j := i + 1; j < len(answers); j++ {
					if !slices.Equal(answers[j], before[j]) {
						t.Fatalf("%s(%x, %x): its answers share memory", c.name, a, b)
					}
				}
			}
			if !slices.Equal(whole(x), wasX) || !slices.Equal(whole(y), wasY) {
				t.Fatalf("%s(%x, %x): an argument has changed", c.name, a, b)
			}
		})
	}
}

// P1.4, R2: whoever writes to an argument later changes no answer, neither one given nor one to come.
func TestArgumentsAreNotKept(t *testing.T) {
	for _, c := range calls() {
		eachPairOfEdges(func(a, b api.Nat) {
			x, y := roomy(a), roomy(b)
			answers := c.run(x, y)
			before := copies(answers)
			overwrite(x)
			overwrite(y)
			again := c.run(roomy(a), roomy(b))
			for i := range answers {
				if !slices.Equal(answers[i], before[i]) || !slices.Equal(again[i], before[i]) {
					t.Fatalf("%s(%x, %x): an argument is kept", c.name, a, b)
				}
			}
		})
	}
}

// P1.4, R2: one list as both arguments.
func TestOneListTwice(t *testing.T) {
	for _, c := range calls() {
		for _, a := range edges() {
			x := roomy(a)
			was := slices.Clone(whole(x))
			got, want := c.run(x, x), c.run(a, slices.Clone(a))
			for i := range got {
				if !slices.Equal(got[i], want[i]) {
					t.Errorf("%s(%x, the same) is %x", c.name, a, got)
				}
			}
			if !slices.Equal(whole(x), was) {
				t.Errorf("%s(%x, the same): the argument has changed", c.name, a)
			}
		}
	}
}

// P1.4, R2: bytes handed in stay, bytes handed out are new.
func TestBytesStay(t *testing.T) {
	b := []byte{1, 2, 3, 4, 5, 6, 7, 8, 9}
	a, _ := nat.From(b)
	if !slices.Equal(b, []byte{1, 2, 3, 4, 5, 6, 7, 8, 9}) {
		t.Error("From changed its argument")
	}
	clear(b)
	if !slices.Equal(a, api.Nat{0x0203040506070809, 1}) {
		t.Error("From keeps its argument")
	}
	first, _ := nat.Bytes(a, 9)
	clear(first)
	second, _ := nat.Bytes(a, 9)
	if !slices.Equal(second, []byte{1, 2, 3, 4, 5, 6, 7, 8, 9}) || a[0] != 0x0203040506070809 {
		t.Error("Bytes keeps its answer")
	}
}

func eachPairOfEdges(try func(a, b api.Nat)) {
	l := append(edges(), full(65), padded(full(65), 2))
	for _, a := range l {
		for _, b := range l {
			try(a, b)
		}
	}
}
