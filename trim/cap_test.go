package trim

import (
	"math"
	"testing"

	"ambit/api"
)

func expectCap(t *testing.T, k, n, want int) {
	t.Helper()
	if got := Cap(k, n); got != want {
		t.Errorf("Cap(%d, %d): %d, not %d", k, n, got, want)
	}
}

// 11.3: every k and n that may be, and those next to them.
func TestCap(t *testing.T) {
	for k := 1; k <= 8; k++ {
		for n := 0; n <= 256; n++ {
			want := 0
			for range k - 1 {
				want += n
			}
			expectCap(t, k, n, want)
		}
	}
	expectCap(t, api.MaxK, api.MaxWidth, 1792)
}

// 11.3: 0, where k or n is out of bounds, however far.
func TestCapOutside(t *testing.T) {
	far := []int{math.MinInt, math.MinInt / 2, -1 << 32, -2, -1, 1 << 32, math.MaxInt / 2, math.MaxInt}
	for _, k := range append(far, 0, 9, 10) {
		for n := -1; n <= 257; n++ {
			expectCap(t, k, n, 0)
		}
	}
	for _, n := range append(far, 257, 258) {
		for k := 0; k <= 9; k++ {
			expectCap(t, k, n, 0)
		}
	}
}
