package tally_test

import (
	"math"
	"testing"

	"voyage/tally"
)

// TestAdd holds that a count goes up to its bound, which is 2^62, and no further.
func TestAdd(t *testing.T) {
	const most = 4611686018427387904
	if tally.Most != most {
		t.Errorf("Most: %d", tally.Most)
	}
	for _, x := range []struct{ count, more, want int64 }{
		{0, 0, 0}, {0, 1, 1}, {5, 2, 7}, {7, 0, 7}, {1 << 40, 1 << 41, 3 << 40},
		{most - 3, 2, most - 1}, {most - 2, 2, most}, {most - 1, 2, most}, {most, 0, most}, {most, 1, most}, {most, 2, most},
		{most - 1, 1, most}, {0, most, most}, {1, most, most}, {most, most, most}, {most / 2, most / 2, most}, {most / 2, most/2 - 1, most - 1},
		{0, math.MaxInt64, most}, {1, math.MaxInt64, most}, {most, math.MaxInt64, most},
	} {
		if got := tally.Add(x.count, x.more); got != x.want {
			t.Errorf("Add(%d, %d): %d, want %d", x.count, x.more, got, x.want)
		}
	}
}
