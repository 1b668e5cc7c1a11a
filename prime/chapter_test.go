package prime_test

import (
	"slices"
	"testing"

	"treenail/api"
	"treenail/prime"
)

// The examples of the chapter.
func TestExamples(t *testing.T) {
	if !prime.Small(2) || !prime.Small(65521) || prime.Small(65537) || prime.Small(1) {
		t.Error(prime.Small(2), prime.Small(65521), prime.Small(65537), prime.Small(1))
	}
	p, err := prime.Check([]api.Step{{P: api.Nat{100547}, Q: api.Nat{50273}, A: api.Nat{2}}})
	if err != nil || !slices.Equal(p, api.Nat{100547}) {
		t.Error(p, err)
	}
	wantSpot(t, proof(step(100549, 50273, 2)), 0, api.ErrProof)
}
