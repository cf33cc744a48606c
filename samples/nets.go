package samples

import (
	"slices"

	"ambit/api"
	"ambit/model"
	"ambit/oracle"
)

// Network is one of these layers, each with the lists that it must have behind those ahead.
func Network(in api.Shape, layers ...api.Layer) api.Net {
	n := api.Net{In: in}
	for _, l := range layers {
		n.Layers = append(n.Layers, Filled(l, in))
		in, _ = model.Out(l, in)
	}
	return n
}

func Named(n api.Net, names ...string) api.Net {
	n.Names = names
	return n
}

// Chain is a network with a layer of each kind.
func Chain() api.Net {
	return Named(Network(Shape(2, 3, 4),
		Windowed(api.KConv, 2, 3, 1, 1, 1, 1),
		api.Layer{Kind: api.KScale},
		Windowed(api.KMean, 2, 2, 1, 1, 0, 1),
		Relu(),
		Add(3),
		Windowed(api.KMax, 2, 2, 2, 3, 1, 0),
		Turn(3),
		Leaky(0.25),
		api.Layer{Kind: api.KTanh},
		Dense(3),
		api.Layer{Kind: api.KSigmoid},
		api.Layer{Kind: api.KSquare},
	), "a", "zwölf", "𝄞!")
}

// Kinds are networks of one layer of each kind, but KAdd with two ahead of it.
func Kinds() []api.Net {
	in := Shape(2, 3, 4)
	return []api.Net{
		Network(in, Dense(5)),
		Network(in, Windowed(api.KConv, 2, 3, 1, 4, 1, 2)),
		Network(in, api.Layer{Kind: api.KScale}),
		Network(in, Windowed(api.KMean, 2, 3, 1, 4, 1, 2)),
		Network(in, Relu(), api.Layer{Kind: api.KTanh}, Add(1)),
		Network(in, Turn(2)),
		Network(in, Relu()),
		Network(in, Leaky(0.75)),
		Network(in, api.Layer{Kind: api.KTanh}),
		Network(in, api.Layer{Kind: api.KSigmoid}),
		Network(in, api.Layer{Kind: api.KSquare}),
		Network(in, Windowed(api.KMax, 2, 3, 1, 4, 1, 2)),
	}
}

// Nets are ordinary networks, small ones ahead.
func Nets() []api.Net {
	all := []api.Net{
		{In: Line(2)},
		Named(Network(Line(1), Leaky(0.5)), "é"),
		Network(Line(1), Leaky(oracle.MinusZero())),
		Network(Line(1), Dense(1)),
		Named(Network(Line(2), Turn(1)), "re", "im"),
		Network(Line(3), Relu(), Relu(), Add(0), Add(2)),
	}
	return append(append(all, Kinds()...), Chain())
}

// Question is one to a network of 3 input and 4 output coordinates: no two of its lists are alike.
func Question() api.Prop {
	all := Counted(3 * 6)
	p := api.Prop{C: slices.Clone(all[:3]), Target: 2, K: 2, Depth: 3, Looks: 300}
	for k := range 5 {
		p.G = append(p.G, slices.Clone(all[3*k+3:3*k+6]))
	}
	for i := range 3 {
		p.Claims = append(p.Claims, slices.Clone(all[i:i+5]))
	}
	return p
}

// Props are ordinary questions, small ones ahead.
func Props() []api.Prop {
	least := api.Prop{C: []float64{0}, K: 1, Looks: 1}
	high := api.Prop{C: []float64{oracle.MinusZero(), 2}, Target: 255, K: 8, Depth: 8, Looks: 1024}
	claims := api.Prop{C: []float64{oracle.Max}, G: [][]float64{{-oracle.Least}}, Target: -1, Claims: [][]float64{{1, oracle.MinusZero()}}, K: 3, Depth: 1, Looks: 128}
	one := claims
	one.Target = 0
	return []api.Prop{least, high, claims, one, Question()}
}
