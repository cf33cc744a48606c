package shadow

import (
	"fmt"
	"testing"

	"ambit/api"
	"ambit/oracle"
	"ambit/samples"
)

// anyPoint has parts of any bits, and often numbers.
func anyPoint(m *oracle.Mixer) complex128 {
	part := func() float64 {
		if m.Below(8) == 0 {
			return api.Float(m.Word())
		}
		if m.Below(16) == 0 {
			return oracle.NoNumbers()[m.Below(6)]
		}
		return samples.MixedNumber(m)
	}
	return complex(part(), part())
}

// 21.8: whatever is handed in, all three calls end, and tell what they tell, twice the same.
func TestAnything(t *testing.T) {
	t.Parallel()
	var m oracle.Mixer
	seen := oracle.Tally{}
	for range 2500 {
		z, i, j := samples.AnyZono(&m), samples.AnyWhole(&m), samples.AnyWhole(&m)
		d := anyPoint(&m)
		var p []complex128
		for range m.Below(5) {
			p = append(p, anyPoint(&m))
		}
		for range 2 {
			_, _, e := expectTwin(t, z, i, j, d)
			seen.Note(fmt.Sprint("Polygon ", e), true)
		}
		_, e := Reach(z, i, j, d)
		seen.Note(fmt.Sprint("Reach ", e), true)
		for range 2 {
			seen.Note(fmt.Sprint("Area ", expectAreaTwin(t, p)), true)
		}
		if t.Failed() {
			return
		}
	}
	for _, e := range []api.Errno{api.OK, api.ErrArg, api.ErrNumber, api.ErrZono} {
		seen.Expect(t, 40, fmt.Sprint("Polygon ", e), fmt.Sprint("Reach ", e))
	}
	seen.Expect(t, 40, "Area true", "Area false")
}

// edgeVectors are vectors of parts at which something changes.
func edgeVectors() []complex128 {
	some := numbers(0, oracle.MinusZero(), least, -least, 0x1p-1022, 1, -1, 1+0x1p-52, beyond, most, -most)
	var all []complex128
	for _, a := range some {
		for _, b := range some {
			all = append(all, complex(a, b))
		}
	}
	return all
}

// 21.1 to 21.3: any two vectors of such parts, about 0 and about the edges.
func TestEdges(t *testing.T) {
	t.Parallel()
	all := edgeVectors()
	var m oracle.Mixer
	for _, u := range all {
		for _, v := range all {
			middle, box, d := complex128(0), complex128(0), all[m.Below(len(all))]
			if m.Below(3) == 0 {
				middle = all[m.Below(len(all))]
			}
			if m.Below(3) == 0 {
				box = complex(least, 1)
			}
			// Most pairs are held to the second shadow by what is cheap: their sides.
			sides, want := sidesOf(points(u, v)), wantSides([]spot{spotOf(u), spotOf(v)})
			if len(sides) != len(want) {
				t.Fatalf("%x and %x: %x", u, v, sides)
			}
			for k, s := range sides {
				sum := spotOf(0)
				for _, w := range s {
					sum = sum.plus(1, spotOf(w))
				}
				if !sum.same(want[k]) {
					t.Fatalf("%x and %x: %x", u, v, sides)
				}
			}
			if m.Below(10) == 0 {
				expectTwin(t, of(middle, box, u, v), 0, 1, d)
			}
			if t.Failed() {
				return
			}
		}
	}
}
