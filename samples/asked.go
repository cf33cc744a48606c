package samples

import (
	"slices"

	"ambit/api"
	"ambit/model"
	"ambit/oracle"
)

// Widths is how many coordinates the input and the last output of a network that may be have.
func Widths(n api.Net) (in, out int) {
	shapes, _, _ := model.Shapes(n)
	in, _ = model.Size(n.In)
	out, _ = model.Size(shapes[len(shapes)-1])
	return in, out
}

// QuestionTo is an ordinary question to a network, with k columns: no two of its lists are alike.
func QuestionTo(n api.Net, k int) api.Prop {
	in, out := Widths(n)
	all := Counted(in * (k + 1))
	p := api.Prop{C: slices.Clone(all[:in]), Target: out - 1, Claims: [][]float64{Counted(out + 1)}, K: 2, Depth: 3, Looks: 300}
	for s := range k {
		p.G = append(p.G, slices.Clone(all[in*(s+1):in*(s+2)]))
	}
	return p
}

// AskedOfKinds is a network of some kinds, at least so many layers of them, with a question that may be put to it and a region; every eighth time a coordinate goes to the greatest number, or past it.
func AskedOfKinds(m *oracle.Mixer, kinds []int, least int) (api.Net, api.Prop, api.Region) {
	n := NetOfKinds(m, kinds, least)
	p := MixedPropTo(m, n)
	if m.Below(8) == 0 {
		i := m.Below(len(p.C))
		p.C[i] = []float64{oracle.Max, -oracle.Max, 0x1p1023, 0x1.8p1022}[m.Below(4)]
		for _, g := range p.G {
			g[i] = m.Number(1020)
		}
	}
	return n, p, MixedRegion(m, len(p.G))
}

// MixedPropTo is a question that may be put to a network, with at most four columns; mostly its numbers are neither great nor small.
func MixedPropTo(m *oracle.Mixer, n api.Net) api.Prop {
	in, out := Widths(n)
	centre, column := MixedKind(m), MixedKind(m)
	if m.Below(4) > 0 {
		from, to := m.Below(4)-1, m.Below(6)-4
		centre, column = func() float64 { return m.Number(from) }, func() float64 { return m.Number(to) }
	}
	p := api.Prop{Target: m.Below(out+1) - 1, Claims: MixedLists(m, 1+m.Below(2), out+1), K: 1 + m.Below(api.MaxK), Depth: m.Below(api.MaxDepth + 1), Looks: 1 + m.Below(api.MaxLooks)}
	for range in {
		p.C = append(p.C, centre())
	}
	for range m.Below(5) {
		var g []float64
		for range in {
			// Columns of few numbers are the ones that mostly lose least.
			a := column()
			if m.Below(4) == 0 {
				a = 0
			}
			g = append(g, a)
		}
		p.G = append(p.G, g)
	}
	return p
}
