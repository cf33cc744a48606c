package shadow

import (
	"slices"
	"testing"

	"ambit/api"
	"ambit/oracle"
	"ambit/samples"
)

// 21.1: no vector is left: one corner, and no nought of it has a sign.
func TestPoints(t *testing.T) {
	minus := oracle.MinusZero()
	expectPolygon(t, of(3-4i, 0), 0, 1, 0, 3-4i)
	expectPolygon(t, of(3-4i, 0), 1, 0, 0, -4+3i)
	expectPolygon(t, of(3-4i, 0), 1, 1, 0, -4-4i)
	expectPolygon(t, of(3-4i, 0, 0, 0, 0), 0, 1, 0, 3-4i)
	expectPolygon(t, of(complex(minus, minus), complex(minus, minus), complex(minus, 0), complex(0, minus), complex(minus, minus)), 0, 1, 0, 0)
	expectPolygon(t, of(complex(most, -most), 0), 0, 1, 0, complex(most, -most))
	expectPolygon(t, of(complex(-least, least), 0), 0, 1, 0, complex(-least, least))
	for _, i := range []int{0, 1} {
		expectPolygon(t, of(complex(minus, minus), 0, complex(minus, minus)), i, i, 0, 0)
	}
}

// 21.1: one vector, whichever way it points: from the lower end to the upper one, of two as low from the left to the right.
func TestLines(t *testing.T) {
	minus := oracle.MinusZero()
	for _, v := range points(2+1i, -2-1i) {
		expectPolygon(t, of(0, 0, v), 0, 1, 0, -2-1i, 2+1i)
		expectPolygon(t, of(10-5i, 0, v, 0), 0, 1, 0, 8-6i, 12-4i)
	}
	for _, v := range points(-2+1i, 2-1i) {
		expectPolygon(t, of(0, 0, v), 0, 1, 0, 2-1i, -2+1i)
	}
	for _, v := range points(3, -3, complex(3, minus), complex(-3, minus)) {
		expectPolygon(t, of(0, 0, v), 0, 1, 0, -3, 3)
	}
	for _, v := range points(3i, -3i, complex(minus, 3), complex(minus, -3)) {
		expectPolygon(t, of(0, 0, v), 0, 1, 0, -3i, 3i)
	}
	expectPolygon(t, of(1, 3), 0, 1, 0, -2, 4)
	expectPolygon(t, of(1, 3i), 0, 1, 0, 1-3i, 1+3i)
}

// 21.1: those that point the same way, or against one another, are one side, whatever their lengths, and wherever they stand.
func TestJoinedVectors(t *testing.T) {
	expectPolygon(t, of(0, 0, 1+2i, 2+4i, -0.5-1i), 0, 1, 0, -3.5-7i, 3.5+7i)
	expectPolygon(t, of(0, 0, 1+2i, -1-2i), 0, 1, 0, -2-4i, 2+4i)
	expectPolygon(t, of(0, 0, 1, 1i, -2, -3i, 4), 0, 1, 0, -7-4i, 7-4i, 7+4i, -7+4i)
	expectPolygon(t, of(0, 0, -1+1i, 1, 2-2i, 1i, 5-5i), 0, 1, 0, 7-9i, 9-9i, 9-7i, -7+9i, -9+9i, -9+7i)
	// As long as the second part is twice the first one, however long they are.
	z := of(0, 0, 0.1+0.2i, -0.3-0.6i, -0x1p-600-0x2p-600i, 0x1p900+0x2p900i)
	if p, _, e := Polygon(z, 0, 1); len(p) != 2 || e != api.OK {
		t.Errorf("%v %v", p, e)
	}
	// The box lies along the axes: it joins columns that do.
	expectPolygon(t, of(0, 2+3i, 1, -1i), 0, 1, 0, -3-4i, 3-4i, 3+4i, -3+4i)
}

// 21.1: vectors that float64 can't tell apart are told apart.
func TestNearlyTheSameWay(t *testing.T) {
	for _, c := range [][2]complex128{
		{complex(1+0x1p-52, 1), complex(1, 1-0x1p-53)},
		{1, complex(1, least)},
		{complex(most, least), complex(most, 2*least)},
		{complex(least, least), complex(least, 2*least)},
		{complex(most, most), complex(most-0x1p971, most)},
		{complex(1, most), complex(0, most)},
		{complex(0, 1), complex(-least, most)},
		{complex(-1, least), complex(-most, least)},
	} {
		for _, sign := range []float64{1, -1} {
			first, second := c[0], c[1]
			u := complex(sign*real(first), sign*imag(first))
			sides, turned := sidesOf(points(u, second)), sidesOf(points(second, u))
			want := []side{{first}, {second}}
			same := func(a, b side) bool { return slices.Equal(a, b) }
			if !slices.EqualFunc(sides, want, same) || !slices.EqualFunc(turned, want, same) {
				t.Errorf("%x: %x and %x", c, sides, turned)
			}
			z := of(0, 0, first, u)
			if p, _, e := Polygon(z, 0, 1); e == api.OK && len(p) != 2 {
				t.Errorf("%s: %x", text(z), p)
			}
		}
	}
	// So there are four corners, though some are told alike.
	expectPolygon(t, of(0, 0, 1, complex(1, least)), 0, 1, 0, complex(-2, -least), complex(0, -least), complex(2, least), complex(0, least))
	expectPolygon(t, of(0, 0, complex(0x1p60, 1), complex(0x1p-60, 0)), 0, 1, 0x1p-60, complex(-0x1p60, -1), complex(-0x1p60, -1), complex(0x1p60, 1), complex(0x1p60, 1))
}

// orders are all orders of the numbers below n.
func orders(n int) [][]int {
	if n == 0 {
		return [][]int{nil}
	}
	var all [][]int
	for _, l := range orders(n - 1) {
		for at := range n {
			all = append(all, slices.Insert(slices.Clone(l), at, n-1))
		}
	}
	return all
}

// 21.1: in whatever order the columns stand, and whichever way each points, the corners are the same.
func TestOrderOfColumns(t *testing.T) {
	vectors := steps()[:6]
	want, far, e := Polygon(of(1-1i, 0, vectors...), 0, 1)
	if far != 0 || e != api.OK || len(want) != 12 {
		t.Fatalf("%v %v %v", want, far, e)
	}
	for n, order := range orders(6) {
		columns := make([]complex128, 6)
		for k, at := range order {
			if columns[k] = vectors[at]; n>>k&1 == 1 {
				columns[k] = -vectors[at]
			}
		}
		expectPolygon(t, of(1-1i, 0, columns...), 0, 1, 0, want...)
	}
}

// 21.1: many sides, against the clock, each where it must be.
func TestManySides(t *testing.T) {
	expectPolygon(t, of(0, 0, steps()...), 0, 1, 0,
		-2-10i, 4-10i, 8-8i, 10-6i, 12-2i, 12, 10+6i, 8+8i,
		2+10i, -4+10i, -8+8i, -10+6i, -12+2i, -12, -10-6i, -8-8i)
}

// 21.1: unlike coordinates: the box is two vectors, along the axes; alike: it is one, along both.
func TestBoxes(t *testing.T) {
	expectPolygon(t, of(0, 2+3i), 0, 1, 0, -2-3i, 2-3i, 2+3i, -2+3i)
	expectPolygon(t, of(0, 2+3i), 1, 0, 0, -3-2i, 3-2i, 3+2i, -3+2i)
	expectPolygon(t, of(0, 2+3i), 0, 0, 0, -2-2i, 2+2i)
	expectPolygon(t, of(0, 2+3i), 1, 1, 0, -3-3i, 3+3i)
	expectPolygon(t, of(5+7i, 2+3i, 1-4i), 0, 0, 0, 2+2i, 8+8i)
	expectPolygon(t, of(5+7i, 2+3i, 1-4i), 1, 1, 0, 0, 14+14i)
	expectPolygon(t, of(5+7i, 2+3i, 1-4i), 0, 1, 0, 4, 8, 8+6i, 6+14i, 2+14i, 2+8i)
	expectPolygon(t, of(0, complex(2, oracle.MinusZero()), 1i), 0, 1, 0, -2-1i, 2-1i, 2+1i, -2+1i)
}

// 21.1: any two coordinates of many, and columns with any Ids.
func TestOtherCoordinates(t *testing.T) {
	z := samples.Zonotope(numbers(9, 1, 9, 2), []int{7, api.MaxId}, [][]float64{{9, 1, 9, 0}, {9, 0, 9, -1}}, numbers(9, 0, 9, 0))
	expectPolygon(t, z, 1, 3, 0, 1i, 2+1i, 2+3i, 3i)
	expectPolygon(t, z, 3, 1, 0, 1, 3, 3+2i, 1+2i)
	expectPolygon(t, z, 1, 1, 0, 0, 2+2i)
	expectPolygon(t, z, 3, 3, 0, 1+1i, 3+3i)
	wide := samples.WideZono(256, 0)
	wide.R = make([]float64, 256)
	expectPolygon(t, wide, 255, 0, 0, complex(wide.C[255], wide.C[0]))
	expectPolygon(t, samples.Zonotope(numbers(1), []int{0}, [][]float64{{2}}, numbers(3)), 0, 0, 0, -4-4i, 6+6i)
}

// 21.1: how far corners are off: the greatest distance of any part of any corner, rounded up.
func TestFar(t *testing.T) {
	for _, c := range []struct {
		name string
		z    api.Zono
		far  float64
		want []complex128
	}{
		{"of the first part", of(1, 0, 0x1p-60), 0x1p-60, points(1, 1)},
		{"of the second part", of(1i, 0, 0x1p-70i), 0x1p-70, points(1i, 1i)},
		{"the greater of the two", of(1+1i, 0, 0x1p-60+0x1p-61i), 0x1p-60, points(1+1i, 1+1i)},
		{"rounded up", of(1, 0, 0x1p-60, 0x1p-200), 0x1p-60 + 0x1p-112, points(1, 1)},
		{"of a sum that is joined", of(0, 0, 1+1i, 0x1p-60+0x1p-60i), 0x1p-60, points(-1-1i, 1+1i)},
		{"half a last bit, to the even one", of(0x1p53, 0, 1), 1, points(0x1p53-1, 0x1p53)},
		{"of the upper end alone", of(0x1p53+2, 0, 1), 1, points(0x1p53, 0x1p53+4)},
		{"a tie at the lower end", of(1, 0, 0x3p-54), 0x1p-54, points(1-0x1p-52, 1+0x1p-52)},
		{"of least parts", of(complex(0, most), 0, complex(0, least)), least, points(complex(0, most), complex(0, most))},
		{"a part beside the least", of(complex(0, 1), 0, complex(0, 0x1p-60), complex(0, least)), 0x1p-60 + 0x1p-112, points(1i, 1i)},
		{"near the greatest", of(complex(most, 0), 0, complex(beyond-0x1p917, 0)), beyond - 0x1p917, points(complex(most, 0), complex(most, 0))},
		{"nearly half a last bit behind the greatest", of(complex(0, most), 0, complex(0, beyond-0x1p917), complex(0, 0x1p917-0x1p864)), beyond, points(complex(0, most), complex(0, most))},
	} {
		p, far, e := Polygon(c.z, 0, 1)
		if e != api.OK || !oracle.Same(far, c.far) || !slices.EqualFunc(p, c.want, samples.SameComplex) {
			t.Errorf("%s: %x %x %v, not %x %x", c.name, p, far, e, c.want, c.far)
		}
	}
}
