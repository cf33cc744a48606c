package shadow

import (
	"testing"

	"ambit/api"
	"ambit/oracle"
	"ambit/samples"
	"ambit/zono"
)

// 21.2: the middle, columns with either sign, and the box, each along d.
func TestReach(t *testing.T) {
	z := of(10-20i, 0.5+0.25i, 1+2i, -3+1i)
	for d, want := range map[complex128]float64{
		1: 10 + 4 + 0.5, -1: -10 + 4 + 0.5, 1i: -20 + 3 + 0.25, -1i: 20 + 3 + 0.25,
		1 + 1i: -10 + 3 + 2 + 0.75, 1 - 1i: 30 + 1 + 4 + 0.75, -2 + 3i: -80 + 4 + 9 + 1.75, 0: 0,
	} {
		expectReach(t, z, 0, 1, d, want)
		expectReach(t, z, 1, 0, complex(imag(d), real(d)), want)
	}
}

// 21.2: both coordinates the same: all along d1 + d2, which may be 0, and need not be a number.
func TestReachOfOneCoordinate(t *testing.T) {
	z := of(10-20i, 0.5+0.25i, 1+2i, -3+1i)
	expectReach(t, z, 0, 0, 1, 14.5)
	expectReach(t, z, 0, 0, 1i, 14.5)
	expectReach(t, z, 0, 0, -1-1i, -20+9)
	expectReach(t, z, 1, 1, 2-1i, -20+3.25)
	expectReach(t, z, 1, 1, 3-3i, 0)
	expectReach(t, of(0, 0, 0x1p-60), 0, 0, 1+0x1p-60i, 0x1p-60*(1+0x1p-52))
	expectReach(t, of(0, 0, 0.5), 0, 0, complex(most, most), most)
	expectReach(t, of(0, 0.5), 0, 0, complex(-most, -most), most)
}

// 21.2: one rounding, upward, of all together.
func TestReachRoundsOnce(t *testing.T) {
	for _, c := range []struct {
		name string
		z    api.Zono
		d    complex128
		want float64
	}{
		{"a part that a sum would swallow", of(1, 0, 0x1p-60), 1, 1 + 0x1p-52},
		{"the least part", of(1, 0, complex(0, least)), 1 + 1i, 1 + 0x1p-52},
		{"parts that would each be lost", of(0x1p54, 0, 1, 1, 2), 1, 0x1p54 + 4},
		{"below 0", of(-1, 0, 0x1p-60), 1, -1 + 0x1p-53},
		{"products that have no number", of(0x1p600+0x1p600i, 0, 1), 0x1p600 - 0x1p600i, 0x1p600},
		{"a product's last bits", of(complex(1+0x1p-52, 1), 0), complex(1+0x1p-52, -1-0x1p-51), 0x1p-104},
		{"a product between noughts", of(complex(least, 0), 0), complex(least, 0), least},
		{"such a one below 0", of(complex(least, 0), 0), complex(-least, 0), 0},
		{"half the least", of(0, complex(least, 0)), 0.5, least},
		{"what is taken away in full", of(0, 0, 1+1i, 3+3i), 1 - 1i, 0},
		{"what is taken away but for a bit", of(0, 0, complex(1, 1+0x1p-52)), 1 - 1i, 0x1p-52},
		{"noughts with a sign", of(complex(0, oracle.MinusZero()), complex(oracle.MinusZero(), 0), complex(oracle.MinusZero(), oracle.MinusZero())), complex(oracle.MinusZero(), -1), 0},
		{"as far as there are numbers", of(complex(most-0x1p971, 0), 0, 0x1p970, 0x1p970), 1, most},
		{"from beyond and back", of(complex(-most, 0), complex(most, most), complex(0, most)), 1 + 0x1p-1i, most},
	} {
		if got, e := Reach(c.z, 0, 1, c.d); e != api.OK || !oracle.Same(got, c.want) {
			t.Errorf("%s: %x %v, not %x", c.name, got, e, c.want)
		}
	}
}

// 21.2: on two unlike coordinates it is chapter 10's Support, of a direction that has but these two.
func TestReachIsASupport(t *testing.T) {
	t.Parallel()
	var m oracle.Mixer
	seen := oracle.Tally{}
	for range 20000 {
		z, i, j := mixed(&m)
		if i == j {
			continue
		}
		d := mixedDirection(&m, z, i, j)
		direction := make([]float64, z.N)
		direction[i], direction[j] = real(d), imag(d)
		far, ok := zono.Support(z, direction)
		if ok {
			expectReach(t, z, i, j, d, far)
		} else {
			expectNoReach(t, z, i, j, d, api.ErrNumber)
		}
		if t.Failed() {
			return
		}
		seen.Note("told", ok)
		seen.Note("none", !ok)
	}
	seen.Expect(t, 500, "told", "none")
}

// 21.1, 21.2: as many columns as may come together behind a layer of MaxWidth: corners reach as far as Reach tells along each axis.
func TestManyColumns(t *testing.T) {
	z := samples.WideZono(api.MaxWidth, api.MaxK*api.MaxWidth+api.MaxSymbols+api.MaxWidth)
	p, far, e := Polygon(z, 3, 250)
	if e != api.OK || far != 0 || len(p) < 1000 {
		t.Fatalf("%d corners, %x %v", len(p), far, e)
	}
	most := p[0]
	for _, a := range p {
		most = complex(max(real(most), real(a)), max(imag(most), imag(a)))
	}
	expectReach(t, z, 3, 250, 1, real(most))
	expectReach(t, z, 3, 250, 1i, imag(most))
	bounds := zono.Bounds(z)
	if bounds[3].Hi != real(most) || bounds[250].Hi != imag(most) {
		t.Errorf("%v and %v, not %v", bounds[3], bounds[250], most)
	}
}
