package shadow

import (
	"math"
	"math/big"
	"testing"

	"ambit/api"
	"ambit/oracle"
	"ambit/samples"
)

// noZonos are bad ones, and what is neither a zonotope nor a bad one.
func noZonos() []api.Zono {
	all := samples.SpoiltZonos()
	for _, n := range []int{0, 1, 2, 255, 256} {
		all = append(all, samples.BadZono(n), api.Zono{N: n, Bad: true, C: numbers(), Ids: []int{}, G: [][]float64{}, R: numbers()})
	}
	return all
}

// 21.1, 21.2: what is no zonotope, or a bad one, comes first, whatever else is wrong.
func TestNoZonotope(t *testing.T) {
	for _, z := range noZonos() {
		for _, i := range append(strange(), 0, 1) {
			expectNoPolygon(t, z, i, 1, api.ErrZono)
			expectNoPolygon(t, z, 0, i, api.ErrZono)
			expectNoReach(t, z, i, 0, 1i, api.ErrZono)
			expectNoReach(t, z, 1, i, noDirections()[0], api.ErrZono)
		}
		if t.Failed() {
			return
		}
	}
}

// 21.1, 21.2: a coordinate that is none comes next, the first one or the second, ahead of a direction that is none and of sums without a number.
func TestNoCoordinate(t *testing.T) {
	far := of(complex(most, most), complex(most, most), complex(most, most))
	for _, z := range []api.Zono{square(), far} {
		for _, i := range append(strange(), 2, 3) {
			for _, j := range []int{0, 1, i, -1, 2} {
				for _, d := range points(1, noDirections()[0]) {
					expectNoReach(t, z, i, j, d, api.ErrArg)
					expectNoReach(t, z, j, i, d, api.ErrArg)
				}
				expectNoPolygon(t, z, i, j, api.ErrArg)
				expectNoPolygon(t, z, j, i, api.ErrArg)
			}
		}
	}
	// Of each width the first that is none, and the last that is one.
	for _, n := range []int{1, 2, 3, 255, 256} {
		z := samples.WideZono(n, 1)
		expectNoPolygon(t, z, n, 0, api.ErrArg)
		expectNoPolygon(t, z, 0, n, api.ErrArg)
		expectNoReach(t, z, n, 0, 1, api.ErrArg)
		expectNoReach(t, z, 0, n, 1, api.ErrArg)
		expectTwin(t, z, n-1, 0, 1)
		expectTwin(t, z, 0, n-1, 1i)
	}
}

// 21.2: a direction with a part that is no number, though nothing would come of it.
func TestNoDirection(t *testing.T) {
	for _, d := range noDirections() {
		for _, z := range []api.Zono{square(), of(0, 0), of(1i, 0), of(0, 1), samples.WideZono(3, 4)} {
			for _, j := range []int{0, 1} {
				expectNoReach(t, z, 0, j, d, api.ErrNumber)
				expectNoReach(t, z, j, 0, d, api.ErrNumber)
			}
		}
	}
}

// beyonds are how many parts of the exact corners have no number.
func beyonds(z api.Zono, i, j int) int {
	many := 0
	for _, c := range wantCorners(z, i, j) {
		for _, v := range []*big.Rat{c.x, c.y} {
			if !oracle.Roundings(v).Is[api.Near] {
				many++
			}
		}
	}
	return many
}

// 21.1: one part of one corner has no number, at each of the corners, in each part, at either end.
func TestNoCorner(t *testing.T) {
	// Two vectors lead twice this far from the middle, at one corner alone.
	const part = beyond / 2
	for _, c := range []struct {
		name         string
		middle, u, v complex128
	}{
		{"the lowest", complex(0, -most), part * 1i, part*1i + 1},
		{"the uppermost", complex(0, most), part * 1i, part*1i + 1},
		{"the one on the right, on the way up", complex(most, 0), part, -part + 1i},
		{"the one on the left, on the way down", complex(-most, 0), part, -part + 1i},
		{"the lowest, on the left", complex(-most, 0), part, part + 1i},
		{"the uppermost, on the right", complex(most, 0), part, part + 1i},
	} {
		z := of(c.middle, 0, c.u, c.v)
		if n := beyonds(z, 0, 1); n != 1 {
			t.Errorf("%s: %d parts have no number", c.name, n)
		}
		expectNoPolygon(t, z, 0, 1, api.ErrNumber)
		expectNoPolygon(t, z, 1, 0, api.ErrNumber)
		// With the next number instead there is one.
		for _, g := range z.G {
			for i, a := range g {
				if math.Abs(a) == part {
					g[i] = math.Nextafter(a, 0)
				}
			}
		}
		if p, far, e := Polygon(z, 0, 1); e != api.OK || len(p) != 4 || far != beyond-0x1p917 {
			t.Errorf("%s: %x %x %v", c.name, p, far, e)
		}
	}
}

// 21.1: likewise where both coordinates are the same, where the box leads there, or columns as far as there are numbers.
func TestNoCornerOfOthers(t *testing.T) {
	for _, i := range []int{0, 1} {
		expectNoPolygon(t, of(complex(most, most), complex(beyond, beyond)), i, i, api.ErrNumber)
		expectNoPolygon(t, of(complex(-most, -most), complex(beyond, beyond)), i, i, api.ErrNumber)
		expectNoPolygon(t, of(0, 0, complex(most, most), complex(-most, most)), i, 1-i, api.ErrNumber)
		expectNoPolygon(t, of(0, complex(most, most), 1, 1i, complex(most, most)), i, 1-i, api.ErrNumber)
	}
	// What is beyond at a coordinate that is not asked for counts nothing.
	z := samples.Zonotope(numbers(most, 1, 2), []int{0}, [][]float64{{most, 1, 0}}, numbers(most, 0, 1))
	expectPolygon(t, z, 1, 2, 0, 1i, 2+1i, 2+3i, 3i)
	expectNoPolygon(t, z, 1, 0, api.ErrNumber)
}

// 21.1: sums that go beyond and come back are none the worse.
func TestSumsComeBack(t *testing.T) {
	for _, sign := range []float64{1, -1} {
		middle := complex(sign*most, -sign*most)
		z := of(middle, 0, complex(beyond/4, 0), complex(0, beyond/4), complex(beyond/4, beyond/4))
		p, far, e := Polygon(z, 0, 1)
		if e != api.OK || far != beyond/2 || len(p) != 6 {
			t.Errorf("%x %x %v", p, far, e)
		}
		for _, a := range p {
			if a != middle {
				t.Errorf("%x", p)
			}
		}
	}
}

// 21.2: sums without a number, above; below there is always one.
func TestNoReach(t *testing.T) {
	z := of(complex(most, 0), 0, 1)
	expectNoReach(t, z, 0, 1, 1, api.ErrNumber)
	expectReach(t, z, 0, 1, -1, -most+0x1p971)
	expectNoReach(t, of(complex(0, most), complex(0, least)), 0, 1, 1i, api.ErrNumber)
	expectReach(t, of(complex(0, most), 0), 0, 1, 1i, most)
	expectReach(t, of(complex(most, most), 0), 0, 1, complex(-most, -most), -most)
	expectNoReach(t, of(complex(most, most), 0), 0, 1, complex(most, -most+0x1p971), api.ErrNumber)
	expectReach(t, of(complex(most, most), 0), 0, 1, complex(most, -most), 0)
	expectNoReach(t, of(0, 0, complex(most, most)), 0, 0, 2, api.ErrNumber)
	expectReach(t, of(0, 0, complex(most, most)), 0, 0, 2-1i, most)
}

// 21.3: what is no number in a part of a corner, wherever it stands; and areas without a number.
func TestNoArea(t *testing.T) {
	for n := 1; n <= 5; n++ {
		for k := range n {
			for _, d := range noDirections() {
				p := make([]complex128, n)
				p[k] = d
				expectNoArea(t, p)
				copy(p, points(1, 2+1i, 3i, -1, -1i)[:n])
				p[k] = d
				expectNoArea(t, p)
			}
		}
	}
	expectNoArea(t, points(0, 0x1p512, complex(0x1p512, 0x1p512), 0x1p512i))
	expectNoArea(t, points(0, complex(most, 0), complex(0, most)))
	expectNoArea(t, points(0, complex(most, 0), 2+4i))
	expectNoArea(t, points(0, complex(most, 0), 2i, -beyond))
}
