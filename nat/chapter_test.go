package nat_test

import (
	"slices"
	"testing"

	"treenail/api"
	"treenail/nat"
)

// The examples of the chapter.
func TestExamples(t *testing.T) {
	if z, err := nat.Add(api.Nat{ones}, api.Nat{1}); err != nil || !slices.Equal(z, api.Nat{0, 1}) {
		t.Error(z, err)
	}
	if q, r, err := nat.Div(api.Nat{7}, api.Nat{2}); err != nil || !slices.Equal(q, api.Nat{3}) || !slices.Equal(r, api.Nat{1}) {
		t.Error(q, r, err)
	}
	q, r, err := nat.Div(api.Nat{7}, nil)
	wantError(t, "Div(7, 0)", err, api.ErrZero, q, r)
	z, err := nat.Sub(api.Nat{1}, api.Nat{2})
	wantError(t, "Sub(1, 2)", err, api.ErrLess, z)
	if a, err := nat.From([]byte{1, 0}); err != nil || !slices.Equal(a, api.Nat{256}) {
		t.Error(a, err)
	}
	if b, err := nat.Bytes(api.Nat{256}, 3); err != nil || !slices.Equal(b, []byte{0, 1, 0}) {
		t.Error(b, err)
	}
	b, err := nat.Bytes(api.Nat{256}, 1)
	wantBytesError(t, b, err, api.ErrLong)
}
