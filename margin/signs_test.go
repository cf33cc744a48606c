package margin

import (
	"math"
	"slices"
	"testing"

	"ambit/api"
	"ambit/oracle"
	"ambit/samples"
)

// 17.4: each column goes against its sum.
func TestSignsOfEachColumn(t *testing.T) {
	z := of(numbers(0, 0), ids(0, 1, 2, 3), lists(numbers(1, 0), numbers(-1, 0), numbers(0, 5), numbers(2, 1)), numbers(0, 0))
	expectSigns(t, z, numbers(1, 0, 0), 4, -1, 1, 0, -1)
	expectSigns(t, z, numbers(-1, 0, 0), 4, 1, -1, 0, 1)
	expectSigns(t, z, numbers(1, -2, 0), 4, -1, 1, 1, 0)
	expectSigns(t, z, numbers(0, 1, 0), 4, 0, 0, -1, -1)
	expectSigns(t, z, numbers(0, 0, 1), 4, 0, 0, 0, 0)
}

// 17.4: the centre, the constant and the box tell nothing.
func TestSignsOfColumnsAlone(t *testing.T) {
	z := of(numbers(-100, 7), ids(0, 1), lists(numbers(1, 0), numbers(0, -1)), numbers(50, 60))
	for _, b := range numbers(0, 1e9, -1e9, most) {
		expectSigns(t, z, numbers(1, 2, b), 2, -1, 1)
	}
	expectSigns(t, pointed(5), numbers(1, 1), 2, 0, 0)
}

// 17.4: Ids that are there and such as are not; what is k or more is not told.
func TestSignsByIds(t *testing.T) {
	z := of(numbers(0), ids(1, 4, 5, 1000, api.MaxId), lists(numbers(1), numbers(-1), numbers(2), numbers(3), numbers(-4)), numbers(0))
	a := numbers(1, 0)
	expectSigns(t, z, a, 0)
	expectSigns(t, z, a, 1, 0)
	expectSigns(t, z, a, 2, 0, -1)
	expectSigns(t, z, a, 4, 0, -1, 0, 0)
	expectSigns(t, z, a, 5, 0, -1, 0, 0, 1)
	expectSigns(t, z, a, 6, 0, -1, 0, 0, 1, -1)
	expectSigns(t, z, a, 8, 0, -1, 0, 0, 1, -1, 0, 0)
	want := make([]int, 256)
	want[1], want[4], want[5] = -1, 1, -1
	expectSigns(t, z, a, 256, want...)
	z.Ids[2] = 255
	want[5], want[255] = 0, -1
	expectSigns(t, z, a, 256, want...)
	expectSigns(t, z, a, 255, want[:255]...)
	z.Ids[2] = 256
	want[255] = 0
	expectSigns(t, z, a, 256, want...)
}

// 17.4: no list, if k is outside, whatever else is handed in.
func TestSignsOutOfBounds(t *testing.T) {
	for _, k := range []int{-1, -2, 257, 258, 1 << 32, 1<<32 + 1, math.MaxInt, math.MinInt} {
		expectSigns(t, first(), numbers(1, 0, 0), k)
		expectSigns(t, first(), nil, k)
		expectSigns(t, samples.BadZono(2), numbers(1, 0, 0), k)
	}
	for _, k := range []int{0, 1, 255, 256} {
		expectNoSigns(t, samples.BadZono(2), numbers(1, 0, 0), k)
		expectNoSigns(t, first(), numbers(1, 0), k)
		expectNoSigns(t, api.Zono{}, nil, k)
	}
}

// 17.4: the sum is exact: what is least, what cancels, and what goes past the greatest number.
func TestSignsAreExact(t *testing.T) {
	sign := func(g, a []float64, want int) {
		t.Helper()
		z := of(make([]float64, len(g)), ids(0), lists(g), make([]float64, len(g)))
		expectSigns(t, z, append(a, 9), 1, want)
	}
	sign(numbers(least), numbers(least), -1)
	sign(numbers(-least), numbers(least), 1)
	sign(numbers(0x1p53, 1, -0x1p53), numbers(1, 1, 1), -1)
	sign(numbers(0x1p53, -1, -0x1p53), numbers(1, 1, 1), 1)
	sign(numbers(most, most, least), numbers(1, -1, -1), 1)
	sign(numbers(most, most, least), numbers(most, -most, least), -1)
	sign(numbers(most, most), numbers(most, -most), 0)
	sign(numbers(most, most), numbers(1, 1), -1)
	// Three times a tenth is not three tenths.
	sign(numbers(0.1, 0.3), numbers(3, -1), -1)
	minus := oracle.MinusZero()
	sign(numbers(0, minus), numbers(minus, 5), 0)
	sign(numbers(minus, 1), numbers(-1, 0), 0)
}

// 17.4, 17.2: at these ends of the symbols the claim's sum is least.
func TestSignsTellTheLeast(t *testing.T) {
	var m oracle.Mixer
	for range 300 {
		z := samples.MixedZono(&m, 1+m.Below(3))
		for k := range z.Ids {
			z.Ids[k] = k
		}
		z.R = make([]float64, z.N)
		a := samples.MixedNumbers(&m, z.N+1)
		at := Signs(z, a, len(z.Ids))
		if sum := sumOf(a, spreadAt(z, at)); sum.Cmp(wantMargin(z, a)) != 0 {
			t.Fatalf("%s, %v: %v is not the least at %v", text(z), a, sum, at)
		}
		// Turned round they are where it is greatest.
		turned := slices.Clone(a)
		for i := range turned {
			turned[i] = -turned[i]
		}
		for s, sign := range Signs(z, turned, len(z.Ids)) {
			if sign != -at[s] {
				t.Fatalf("%s, %v: %d at %d, but %d turned round", text(z), a, at[s], s, sign)
			}
		}
	}
}
