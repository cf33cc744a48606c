package shadow

import (
	"fmt"
	"math"
	"slices"
	"testing"

	"ambit/api"
	"ambit/oracle"
	"ambit/samples"
)

const (
	most  = oracle.Max
	least = oracle.Least

	// What has no number that is nearest begins so far behind most.
	beyond = 0x1p970
)

func numbers(l ...float64) []float64 { return l }

func points(l ...complex128) []complex128 { return l }

// of is a zonotope of two coordinates, made by no call: its centre, how far its box goes, and its columns.
func of(centre, box complex128, columns ...complex128) api.Zono {
	pair := func(a complex128) []float64 { return numbers(real(a), imag(a)) }
	z := samples.Zonotope(pair(centre), nil, nil, pair(box))
	for k, g := range columns {
		z.Ids, z.G = append(z.Ids, k), append(z.G, pair(g))
	}
	return z
}

// square is the one of the chapter's examples.
func square() api.Zono { return of(0, 0, 1, 1i) }

// text is what something looks like, as far as one may want to read.
func text(what any) string {
	s := fmt.Sprintf("%+v", what)
	return s[:min(len(s), 1200)]
}

// expectPolygon holds Polygon to corners, bit for bit, and to how far they are off.
func expectPolygon(t *testing.T, z api.Zono, i, j int, far float64, want ...complex128) {
	t.Helper()
	got, off, e := Polygon(z, i, j)
	if e != api.OK || !oracle.Same(off, far) || !slices.EqualFunc(got, want, samples.SameComplex) {
		t.Errorf("Polygon(%s, %d, %d): %s %x %v, not %s %x", text(z), i, j, text(got), off, e, text(want), far)
	}
}

func expectNoPolygon(t *testing.T, z api.Zono, i, j int, want api.Errno) {
	t.Helper()
	if got, far, e := Polygon(z, i, j); e != want || len(got) > 0 || !oracle.Same(far, 0) {
		t.Errorf("Polygon(%s, %d, %d): %s and %x beside %v, not %v alone", text(z), i, j, text(got), far, e, want)
	}
}

func expectReach(t *testing.T, z api.Zono, i, j int, d complex128, want float64) {
	t.Helper()
	if got, e := Reach(z, i, j, d); e != api.OK || !oracle.Same(got, want) {
		t.Errorf("Reach(%s, %d, %d, %x): %x %v, not %x", text(z), i, j, d, got, e, want)
	}
}

func expectNoReach(t *testing.T, z api.Zono, i, j int, d complex128, want api.Errno) {
	t.Helper()
	if got, e := Reach(z, i, j, d); e != want || !oracle.Same(got, 0) {
		t.Errorf("Reach(%s, %d, %d, %x): %x beside %v, not %v alone", text(z), i, j, d, got, e, want)
	}
}

func expectArea(t *testing.T, p []complex128, want float64) {
	t.Helper()
	if got, ok := Area(p); !ok || !oracle.Same(got, want) {
		t.Errorf("Area(%s): %x %v, not %x", text(p), got, ok, want)
	}
}

func expectNoArea(t *testing.T, p []complex128) {
	t.Helper()
	if got, ok := Area(p); ok || !oracle.Same(got, 0) {
		t.Errorf("Area(%s): %x %v, not none", text(p), got, ok)
	}
}

// strange are whole numbers that are no coordinates of few.
func strange() []int {
	return []int{math.MinInt, math.MinInt + 1, -1 << 32, -257, -2, -1, 256, 257, 1 << 32, 1<<32 + 1, math.MaxInt - 1, math.MaxInt}
}

// noDirections have a part that is no number, or two.
func noDirections() []complex128 {
	var all []complex128
	for _, a := range oracle.NoNumbers() {
		for _, b := range append(oracle.NoNumbers(), 0, oracle.MinusZero(), 1, -most) {
			all = append(all, complex(a, b), complex(b, a))
		}
	}
	return all
}

// steps are vectors that turn to the left, all of whole numbers, the second below 0 in none.
func steps() []complex128 { return points(3, 2+1i, 1+1i, 1+2i, 1i, -1+3i, -1+1i, -3+1i) }

// alike is a vector that points as another one does, or against it: times a power of 2, or a small whole number, where that is exact.
func alike(m *oracle.Mixer, v complex128) complex128 {
	by := []float64{1, -1, 2, -2, 0.5, -0.25, 0x1p-40, 3, -5}[m.Below(9)]
	w := complex(real(v)*by, imag(v)*by)
	if real(w)/by != real(v) || imag(w)/by != imag(v) || math.FMA(real(v), by, -real(w)) != 0 || math.FMA(imag(v), by, -imag(w)) != 0 {
		return v
	}
	return w
}

// mixedVectors are some of one kind, often alike, or with a nought, or nought.
func mixedVectors(m *oracle.Mixer, number func() float64) []complex128 {
	var all []complex128
	for range m.Below(7) {
		v := complex(number(), number())
		switch m.Below(8) {
		case 0:
			v = complex(real(v), 0)
		case 1:
			v = complex(oracle.MinusZero(), imag(v))
		case 2:
			v = complex(0, oracle.MinusZero())
		case 3, 4:
			if len(all) > 0 {
				v = alike(m, all[m.Below(len(all))])
			}
		case 5:
			v = complex(real(v), real(v))
		}
		all = append(all, v)
	}
	return all
}

// mixed is a zonotope of up to four coordinates, the two that are asked for, and what was made into its columns there.
func mixed(m *oracle.Mixer) (z api.Zono, i, j int) {
	number := samples.MixedKind(m)
	z = samples.MixedZono(m, 1+m.Below(4))
	z.Ids, z.G = nil, nil
	i, j = m.Below(z.N), m.Below(z.N)
	for k := range z.N {
		z.C[k] = number()
		if z.R[k] = math.Abs(number()); m.Below(2) == 0 {
			z.R[k] = 0
		}
	}
	for k, v := range mixedVectors(m, number) {
		g := make([]float64, z.N)
		for l := range g {
			g[l] = number()
		}
		g[i], g[j] = real(v), imag(v)
		z.Ids, z.G = append(z.Ids, 3*k+m.Below(3)), append(z.G, g)
	}
	return z, i, j
}

// mixedDirection is a direction, often along a side of the shadow or across one.
func mixedDirection(m *oracle.Mixer, z api.Zono, i, j int) complex128 {
	if m.Below(3) > 0 || len(z.G) == 0 {
		return complex(samples.MixedKind(m)(), samples.MixedKind(m)())
	}
	g := z.G[m.Below(len(z.G))]
	return []complex128{complex(g[i], g[j]), complex(-g[j], g[i]), complex(g[j], -g[i]), complex(g[i], -g[j])}[m.Below(4)]
}
