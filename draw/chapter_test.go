package draw_test

import (
	"slices"
	"testing"

	"treenail/api"
	"treenail/draw"
)

// The examples of the chapter.
func TestExamples(t *testing.T) {
	d := draw.New([]byte("s"))
	if p, err := d.Perm(1); err != nil || !slices.Equal(p, []int{0}) {
		t.Error(p, err)
	}
	if p, err := d.Perm(0); err != nil || len(p) != 0 {
		t.Error(p, err)
	}
	wantCount(t, d, 0)
	if z, err := d.Below(api.Nat{1}); err != nil || len(z) != 0 {
		t.Error(z, err)
	}
	wantCount(t, d, 1)
	if z, err := d.Below(nil); err != api.ErrArg || len(z) != 0 {
		t.Error(z, err)
	}
	if b, err := d.Bytes(-1); err != api.ErrArg || len(b) != 0 {
		t.Error(b, err)
	}
	wantCount(t, d, 1)
}
