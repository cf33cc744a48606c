package samples

import (
	"math"
	"slices"

	"ambit/api"
	"ambit/oracle"
)

// Zonotope is one of these lists.
func Zonotope(c []float64, ids []int, g [][]float64, r []float64) api.Zono {
	return api.Zono{N: len(c), C: c, Ids: ids, G: g, R: r}
}

// BadZono is the bad one of n coordinates.
func BadZono(n int) api.Zono { return api.Zono{N: n, Bad: true} }

// SameZono tells whether two zonotopes are alike, bit for bit; nil and empty lists are.
func SameZono(a, b api.Zono) bool {
	return a.N == b.N && a.Bad == b.Bad && SameNumbers(a.C, b.C) && slices.Equal(a.Ids, b.Ids) && SameLists(a.G, b.G) && SameNumbers(a.R, b.R)
}

// WideZono is one of n coordinates and k columns, of numbers that tell where they stood, with the Ids 0, 2, 4 and so on.
func WideZono(n, k int) api.Zono {
	all := Counted(n * (k + 2))
	z := Zonotope(slices.Clone(all[:n]), nil, nil, nil)
	for i := range k {
		z.Ids, z.G = append(z.Ids, 2*i), append(z.G, slices.Clone(all[n*(i+1):n*(i+2)]))
	}
	for _, a := range all[n*(k+1):] {
		z.R = append(z.R, math.Abs(a))
	}
	return z
}

// RoomyZono is one of three coordinates and four columns with more behind the end of each of its lists.
func RoomyZono() api.Zono { return RoomyWideZono(3, 4) }

// RoomyWideZono is WideZono's with more behind the end of each of its lists.
func RoomyWideZono(n, k int) api.Zono {
	z := WideZono(n, k)
	z.C, z.R, z.Ids = Roomy(z.C, 7), Roomy(z.R, 8), Roomy(z.Ids, 9)
	for k, g := range z.G {
		z.G[k] = Roomy(g, 10)
	}
	z.G = Roomy(z.G, []float64{1})
	return z
}

// WholeZono is a copy of a zonotope in which the room behind each list counts as a part of it: so SameZono looks at that too.
func WholeZono(z api.Zono) api.Zono {
	z.C, z.R, z.Ids, z.G = slices.Clone(Whole(z.C)), slices.Clone(Whole(z.R)), slices.Clone(Whole(z.Ids)), slices.Clone(Whole(z.G))
	for k, g := range z.G {
		z.G[k] = slices.Clone(Whole(g))
	}
	return z
}

// ScribbleZono writes all over a zonotope's lists, behind their ends too.
func ScribbleZono(z api.Zono) {
	for _, g := range Whole(z.G) {
		Scribble(g, 77)
	}
	Scribble(z.C, 78)
	Scribble(z.R, 79)
	Scribble(z.Ids, 80)
	Scribble(z.G, nil)
}

// SpoiltZonos are neither zonotopes nor bad ones, each for another reason.
func SpoiltZonos() []api.Zono {
	all := append(unlikeZonos(), api.Zono{}, WideZono(257, 1), WideZono(257, 0))
	for _, n := range []int{0, 1, 3, -1, 256, math.MaxInt, math.MinInt} {
		all = append(all, spoilt(func(z *api.Zono) { z.N = n }), api.Zono{N: n})
	}
	for _, n := range []int{-1, 257, math.MaxInt, math.MinInt} {
		all = append(all, BadZono(n))
	}
	for _, ids := range [][]int{{3, 0}, {3, 3}, {0, 0}, {-1, 0}, {math.MinInt, 0}, {-2, -1}, {0, api.MaxId + 1}, {api.MaxId, api.MaxId + 1}, {0, math.MaxInt}} {
		all = append(all, spoilt(func(z *api.Zono) { z.Ids = ids }))
	}
	for _, a := range append(oracle.NoNumbers(), -oracle.Least, -1, -oracle.Max) {
		all = append(all, spoilt(func(z *api.Zono) { z.R[0] = a }), spoilt(func(z *api.Zono) { z.R[1] = a }))
	}
	for _, a := range oracle.NoNumbers() {
		for i := range 2 {
			all = append(all, spoilt(func(z *api.Zono) { z.C[i] = a }), spoilt(func(z *api.Zono) { z.G[0][i] = a }), spoilt(func(z *api.Zono) { z.G[1][i] = a }))
		}
	}
	return all
}

// spoilt is a zonotope of two coordinates and two columns in which something was changed.
func spoilt(change func(z *api.Zono)) api.Zono {
	z := Zonotope([]float64{1, 2}, []int{0, 3}, [][]float64{{1, 0}, {1, -1}}, []float64{0, 0.5})
	change(&z)
	return z
}

// unlikeZonos have lists that are not as long as they must be, or that must not be.
func unlikeZonos() []api.Zono {
	all := []api.Zono{
		{N: 1, Bad: true, C: []float64{1}}, {N: 1, Bad: true, R: []float64{1}}, {N: 1, Bad: true, Ids: []int{0}}, {N: 1, Bad: true, G: [][]float64{nil}},
		{Bad: true, C: []float64{1}}, {Bad: true, R: []float64{0}}, {Bad: true, Ids: []int{0}}, {Bad: true, G: [][]float64{{}}},
	}
	for _, change := range []func(z *api.Zono){
		func(z *api.Zono) { z.Bad = true },
		func(z *api.Zono) { z.C = nil },
		func(z *api.Zono) { z.C = z.C[:1] },
		func(z *api.Zono) { z.C = append(z.C, 0) },
		func(z *api.Zono) { z.R = nil },
		func(z *api.Zono) { z.R = z.R[:1] },
		func(z *api.Zono) { z.R = append(z.R, 0) },
		func(z *api.Zono) { z.Ids = nil },
		func(z *api.Zono) { z.Ids = z.Ids[:1] },
		func(z *api.Zono) { z.Ids = append(z.Ids, 4) },
		func(z *api.Zono) { z.G = nil },
		func(z *api.Zono) { z.G = z.G[:1] },
		func(z *api.Zono) { z.G = append(z.G, []float64{0, 0}) },
		func(z *api.Zono) { z.G[0] = nil },
		func(z *api.Zono) { z.G[1] = nil },
		func(z *api.Zono) { z.G[0] = z.G[0][:1] },
		func(z *api.Zono) { z.G[1] = append(z.G[1], 0) },
		func(z *api.Zono) { z.Ids, z.G[0], z.G[1] = []int{0, 1}, []float64{1}, []float64{1, 2, 3} },
	} {
		all = append(all, spoilt(change))
	}
	return all
}

// MixedKind makes numbers that are alike in something: of any size, of nearly one size, small whole ones, least ones, or greatest ones.
func MixedKind(m *oracle.Mixer) func() float64 {
	exponent := m.Below(2000) - 1000
	return [...]func() float64{
		func() float64 { return MixedNumber(m) },
		func() float64 { return m.Number(exponent) },
		func() float64 { return m.Number(0) },
		func() float64 { return math.Copysign(float64(m.Below(4)), float64(m.Below(2))-0.5) },
		func() float64 { return m.Number(-1072) },
		func() float64 { return m.Number(1021) },
	}[m.Below(6)]
}

// MixedZono is a zonotope of n coordinates, with at most five columns; the Ids of two have often something in common.
func MixedZono(m *oracle.Mixer, n int) api.Zono {
	number := MixedKind(m)
	list := func() []float64 {
		l := make([]float64, n)
		for i := range l {
			l[i] = number()
		}
		return l
	}
	z := Zonotope(list(), nil, nil, list())
	for i, r := range z.R {
		if z.R[i] = math.Abs(r); m.Below(3) == 0 {
			z.R[i] = []float64{0, oracle.MinusZero()}[m.Below(2)]
		}
	}
	for _, id := range []int{0, 1, 3, 7, api.MaxId - 1, api.MaxId} {
		if m.Below(5) < 2 && len(z.Ids) < 5 {
			z.Ids, z.G = append(z.Ids, id), append(z.G, list())
		}
	}
	return z
}

// AnyZono is a zonotope, a bad one, or neither.
func AnyZono(m *oracle.Mixer) api.Zono {
	z := MixedZono(m, 1+m.Below(3))
	switch m.Below(12) {
	case 0:
		return BadZono(m.Below(4))
	case 1:
		z.N = AnyWhole(m)
	case 2:
		z.C = MixedNumbers(m, m.Below(4))
	case 3:
		z.R[m.Below(z.N)] = api.Float(m.Word())
	case 4:
		z.G = MixedLists(m, m.Below(4), z.N)
	case 5:
		z.Ids = append(z.Ids, AnyWhole(m))
	case 6:
		z.Bad = true
	}
	return z
}
