package cases

import (
	"ambit/api"
	"ambit/flow"
	"ambit/margin"
	"ambit/oracle"
	"ambit/samples"
)

// Some is a network of some kinds, of at most so many layers, and a question to it; its numbers are any.
func Some(m *oracle.Mixer, kinds []int, layers int) (api.Net, api.Prop) {
	n, p, _ := samples.AskedOfKinds(m, kinds, 1)
	n.Layers = n.Layers[:min(len(n.Layers), layers)]
	_, out := samples.Widths(n)
	p.Target, p.Claims = m.Below(out+1)-1, samples.MixedLists(m, 1+m.Below(2), out+1)
	p.Depth, p.Looks = m.Below(9), 1+m.Below(50)
	return n, p
}

// Undecided is one whose claims hold or fail by about as much as zonotopes lose: so regions are halved.
func Undecided(m *oracle.Mixer, kinds []int, layers int) (api.Net, api.Prop) {
	n, p := Some(m, kinds, layers)
	_, out := samples.Widths(n)
	trace, _ := flow.Push(n, p, samples.Cube(len(p.G)), 1)
	z := trace.Z[len(n.Layers)]
	if z.Bad {
		return n, p
	}
	p.Target, p.Claims = -1, nil
	for range 1 + m.Below(3) {
		var a []float64
		for range out {
			a = append(a, m.Number(0))
		}
		a = append(a, 0)
		p.Claims = append(p.Claims, steered(m, z, a))
	}
	return n, p
}

// steered is a claim with a constant that puts its least sum over a zonotope near 0.
func steered(m *oracle.Mixer, z api.Zono, a []float64) []float64 {
	low, ok := margin.Margin(z, a)
	middle := 0.0
	for i, c := range z.C {
		middle += a[i] * c
	}
	constant := (middle-low)*float64(4+m.Below(9))/10 - middle
	if ok && constant-constant == 0 {
		a[len(a)-1] = constant
	}
	return a
}

// Wavy is one of one coordinate, with places at which zonotopes lose something, and bumps here and there.
func Wavy(m *oracle.Mixer) (api.Net, api.Prop) {
	var places []float64
	for range 1 + m.Below(4) {
		places = append(places, float64(m.Below(33)-16)/16)
	}
	n := Kinks(places...)
	p := Unit([]float64{1, float64(1+m.Below(8)) / 32})
	if m.Below(3) == 0 {
		n, p.Claims = Bumps(1.5, places), [][]float64{{-1, 1 + float64(m.Below(16))/16}}
	}
	if m.Below(3) == 0 {
		p.G = [][]float64{{0.75}, {-0.25}}
	}
	p.Depth, p.Looks = m.Below(9), 1+m.Below(100)
	return n, p
}

// Mixed is a network and a question of any sort.
func Mixed(m *oracle.Mixer) (api.Net, api.Prop) {
	kinds := [][]int{samples.EveryKind(), samples.BentKinds(), samples.ExactKinds(), {api.KDense, api.KRelu}}[m.Below(4)]
	switch m.Below(5) {
	case 0:
		return Some(m, kinds, 4)
	case 1:
		return Wavy(m)
	}
	return Undecided(m, kinds, 4)
}
