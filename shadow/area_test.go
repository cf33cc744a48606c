package shadow

import (
	"slices"
	"testing"

	"ambit/oracle"
)

// 21.3: known areas, whichever way round and wherever the corners begin.
func TestArea(t *testing.T) {
	for _, c := range []struct {
		p    []complex128
		want float64
	}{
		{points(0, 1, 1i), 0.5},
		{points(1+1i, 4+1i, 4+3i, 1+3i), 6},
		{points(-100-100i, -99-100i, -99-99i, -100-99i), 1},
		{points(0, 4, 4+4i, 2+1i, 4i), 10},
		{points(0, 1, 2, 3), 0},
		{points(0, 3+1i, 6+2i, 3+1i), 0},
		// Crossed in the middle: what lies on either side is taken away from the other.
		{points(0, 2+2i, 2, 2i), 0},
		{points(0, 2+2i, 2, 1i), 1},
		// Twice round counts twice.
		{points(0, 1, 1+1i, 1i, 0, 1, 1+1i, 1i), 2},
		{points(0, 1, 1+1i, 1i, 0, 1i, 1+1i, 1), 0},
		// A corner twice, and one on a side, change nothing.
		{points(0, 0, 1, 2, 2, 2+2i, 2i), 4},
	} {
		back := slices.Clone(c.p)
		slices.Reverse(back)
		for k := range c.p {
			expectArea(t, slices.Concat(c.p[k:], c.p[:k]), c.want)
			expectArea(t, slices.Concat(back[k:], back[:k]), c.want)
		}
	}
}

// 21.3: fewer than three corners have the area 0, however far they lie.
func TestAreaOfFew(t *testing.T) {
	expectArea(t, nil, 0)
	expectArea(t, points(), 0)
	for _, a := range oracle.Edges() {
		for _, b := range oracle.Edges() {
			expectArea(t, points(complex(a, b)), 0)
			expectArea(t, points(complex(a, b), complex(b, -a)), 0)
			expectArea(t, points(complex(a, b), 1+2i), 0)
		}
	}
}

// 21.3: one rounding, to the nearest, of half of the whole sum.
func TestAreaRoundsOnce(t *testing.T) {
	for _, c := range []struct {
		name string
		p    []complex128
		want float64
	}{
		{"far off", points(0x1p53+0x1p53i, 0x1p53+2+0x1p53i, 0x1p53+2+0x1p53i+2i), 2},
		{"farther off", points(0x1p500+0x1p500i, 0x1p500+0x1p448+0x1p500i, 0x1p500+0x1p448i+0x1p500i), 0x1p895},
		{"a tie, to the even one", points(0, 2, complex(2, 1+0x1p-52), complex(0, 0x1p-53)), 1 + 0x1p-51},
		{"products that have no number", points(0x1p600, 0x1p600i, -0x1p600, 0x1p600i), 0},
		{"the greatest", points(0, complex(most, 0), 2i), most},
		{"a little more than the greatest", points(0, complex(most, 0), 2i, -beyond/2), most},
		{"half the least", points(0, complex(least, 0), 1i), 0},
		{"half the least and more", points(0, complex(least, 0), complex(0, 1+0x1p-52)), least},
		{"three halves of it", points(0, complex(least, 0), 3i), 2 * least},
		{"least parts", points(0, complex(least, 0), complex(0, least)), 0},
		{"noughts with a sign", points(complex(0, oracle.MinusZero()), complex(oracle.MinusZero(), 0), complex(oracle.MinusZero(), oracle.MinusZero())), 0},
	} {
		if got, ok := Area(c.p); !ok || !oracle.Same(got, c.want) {
			t.Errorf("%s: %x %v, not %x", c.name, got, ok, c.want)
		}
	}
}
