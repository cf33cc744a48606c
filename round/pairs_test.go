package round

import (
	"testing"

	"ambit/oracle"
)

// half of what 1 and the number above it differ by
const half = 0x1p-53

// pairs are all pairs of a height and an edge, and many of other numbers whose sums, products or quotients lie at an edge.
func pairs() [][2]float64 {
	var l [][2]float64
	for _, a := range oracle.Heights() {
		for _, b := range oracle.Edges() {
			l = append(l, [2]float64{a, b})
		}
	}
	var m oracle.Mixer
	for range 250 {
		e := m.Below(2000) - 1000
		l = append(l,
			[2]float64{m.Number(e), m.Number(e - m.Below(60))},
			[2]float64{m.Number(e), m.Number(-e)},
			[2]float64{m.Number(e), m.Number(-1074 - e)},
			[2]float64{m.Number(e), m.Number(-1023 - e)},
			[2]float64{m.Number(e), m.Number(1023 - e)},
			[2]float64{m.Number(e), m.Number(1074 + e)},
			[2]float64{m.Number(e), m.Number(1022 + e)},
			[2]float64{m.Number(e), m.Number(e - 1023)},
		)
	}
	return l
}

func expect(t *testing.T, name string, got float64, ok bool, want float64, is bool) {
	t.Helper()
	if ok != is || !oracle.Same(got, want) {
		t.Errorf("%s: %x %v, not %x %v", name, got, ok, want, is)
	}
}
