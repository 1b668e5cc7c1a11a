package mont_test

import (
	"slices"
	"testing"

	"treenail/api"
	"treenail/mont"
)

// The examples of the chapter.
func TestExamples(t *testing.T) {
	r := modulo(t, api.Nat{23})
	if z, err := r.Exp(api.Nat{2}, api.Nat{11}); err != nil || !slices.Equal(z, api.Nat{1}) {
		t.Error(z, err)
	}
	if z, err := r.Exp(nil, nil); err != nil || !slices.Equal(z, api.Nat{1}) {
		t.Error(z, err)
	}
	if z, err := r.Inverse(api.Nat{5}); err != nil || !slices.Equal(z, api.Nat{14}) {
		t.Error(z, err)
	}
	if z, err := r.Sub(api.Nat{1}, api.Nat{2}); err != nil || !slices.Equal(z, api.Nat{22}) {
		t.Error(z, err)
	}
	for _, m := range []api.Nat{{4}, {1}} {
		if r, err := mont.New(m); r != nil || err != api.ErrEven {
			t.Error(r, err)
		}
	}
	z, err := r.Inverse(nil)
	wantError(t, z, err, api.ErrNone, "Inverse of 0")
}
