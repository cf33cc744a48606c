package samples

import (
	"math"
	"strings"

	"ambit/api"
	"ambit/model"
	"ambit/oracle"
)

// MixedNumber is a number of any size; often one whose sign is all that it has.
func MixedNumber(m *oracle.Mixer) float64 {
	switch m.Below(6) {
	case 0:
		return 0
	case 1:
		return oracle.MinusZero()
	case 2:
		return oracle.Edges()[m.Below(len(oracle.Edges()))]
	}
	return m.Number(m.Below(2000) - 1000)
}

func MixedNumbers(m *oracle.Mixer, n int) []float64 {
	var l []float64
	for range n {
		l = append(l, MixedNumber(m))
	}
	return l
}

func MixedLists(m *oracle.Mixer, k, n int) [][]float64 {
	var l [][]float64
	for range k {
		l = append(l, MixedNumbers(m, n))
	}
	return l
}

// LayerOf is a layer of a kind over a shape, but for From, with numbers that are made one by one; false, if what came up may not be.
func LayerOf(m *oracle.Mixer, kind int, in api.Shape, number func() float64) (api.Layer, bool) {
	l := api.Layer{Kind: kind}
	switch kind {
	case api.KDense, api.KTurn:
		l.Out = 1 + m.Below(4)
	case api.KConv, api.KMean, api.KMax:
		l.KH, l.KW, l.SH, l.SW = 1+m.Below(4), 1+m.Below(4), 1+m.Below(4), 1+m.Below(4)
		l.PH, l.PW = m.Below(l.KH), m.Below(l.KW)
		if kind == api.KConv {
			l.Out = 1 + m.Below(2)
		}
		if kind == api.KMean {
			l.A = number()
		}
	case api.KLeaky:
		l.A = []float64{0, oracle.MinusZero(), oracle.Least, 0.1, 1}[m.Below(5)]
	}
	w, b, z, zb, e := model.Lists(l, in)
	if e != api.OK {
		return api.Layer{}, false
	}
	for range w {
		l.W = append(l.W, number())
	}
	for range b {
		l.B = append(l.B, number())
	}
	for range z {
		l.Z = append(l.Z, complex(number(), number()))
	}
	for range zb {
		l.ZB = append(l.ZB, complex(number(), number()))
	}
	return l, true
}

// mixedLayer is a layer that may be over a shape, but for From; its lists are of mixed numbers.
func mixedLayer(m *oracle.Mixer, in api.Shape) api.Layer {
	for {
		if l, ok := LayerOf(m, 1+m.Below(12), in, func() float64 { return MixedNumber(m) }); ok {
			return l
		}
	}
}

// mixedName is a name that tells its number.
func mixedName(m *oracle.Mixer, i int) string {
	return strings.Repeat("aé€𝄞"[:[]int{1, 3, 6, 10}[m.Below(4)]], m.Below(8)) + string(rune('!'+7*i+0x100))
}

// MixedNet is a network that may be.
func MixedNet(m *oracle.Mixer) api.Net {
	n := api.Net{In: Shape(1+m.Below(3), 1+m.Below(4), 1+m.Below(4))}
	shapes := []api.Shape{n.In}
	for range m.Below(6) {
		l := mixedLayer(m, shapes[len(shapes)-1])
		if l.Kind == api.KAdd {
			for l.From = m.Below(len(shapes)); shapes[l.From] != shapes[len(shapes)-1]; {
				l.From++
			}
		}
		n.Layers = append(n.Layers, l)
		out, _ := model.Out(l, shapes[len(shapes)-1])
		shapes = append(shapes, out)
	}
	if size, _ := model.Size(shapes[len(shapes)-1]); m.Below(2) == 0 {
		for i := range size {
			n.Names = append(n.Names, mixedName(m, i))
		}
	}
	return n
}

// NetOfKinds is a network of layers of some kinds, with at least so many of them and at most five more.
func NetOfKinds(m *oracle.Mixer, kinds []int, least int) api.Net {
	number := MixedKind(m)
	if m.Below(3) > 0 {
		number = func() float64 { return m.Number(m.Below(6) - 3) }
	}
	n := api.Net{In: Shape(1+m.Below(2), 1+m.Below(3), 1+m.Below(3))}
	shapes := []api.Shape{n.In}
	for len(n.Layers) < least || m.Below(3) > 0 && len(n.Layers) < least+5 {
		ahead := shapes[len(shapes)-1]
		l, ok := LayerOf(m, kinds[m.Below(len(kinds))], ahead, number)
		if !ok {
			continue
		}
		if l.Kind == api.KAdd {
			for l.From = m.Below(len(shapes)); shapes[l.From] != ahead; {
				l.From++
			}
		}
		out, _ := model.Out(l, ahead)
		n.Layers, shapes = append(n.Layers, l), append(shapes, out)
	}
	return n
}

// MixedProp is a question that may be.
func MixedProp(m *oracle.Mixer) api.Prop {
	width, out := 1+m.Below(4), 1+m.Below(4)
	p := api.Prop{C: MixedNumbers(m, width), G: MixedLists(m, m.Below(4), width), K: 1 + m.Below(8), Depth: m.Below(9), Looks: 1 + m.Below(1024)}
	p.Target, p.Claims = m.Below(out+1)-1, MixedLists(m, 1+m.Below(3), out+1)
	if m.Below(3) == 0 {
		p.Target, p.Claims = m.Below(256), nil
	}
	return p
}

// AnyProp is a question that may be, or one in which something or other is wrong.
func AnyProp(m *oracle.Mixer) api.Prop {
	p := MixedProp(m)
	wholes := []*int{&p.Target, &p.K, &p.Depth, &p.Looks}
	switch m.Below(7) {
	case 0:
		*wholes[m.Below(4)] = []int{math.MaxInt, math.MinInt, -1, -2, 0, 255, 256, 257, 1024, 1025}[m.Below(10)]
	case 1:
		p.C = MixedNumbers(m, m.Below(3))
	case 2:
		p.C[0] = oracle.NoNumbers()[m.Below(6)]
	case 3:
		p.G = append(p.G, MixedNumbers(m, m.Below(4)))
	case 4:
		p.Claims = append(p.Claims, MixedNumbers(m, []int{0, 1, 2, 3, 256, 257, 258}[m.Below(7)]))
	}
	return p
}

// AnyWhole is a whole number that is often small, and often great.
func AnyWhole(m *oracle.Mixer) int {
	if m.Below(12) == 0 {
		return []int{math.MaxInt, math.MinInt, 1 << 62, -1 << 62, 1 << 32, 255, 256, 257, -1, -2}[m.Below(10)]
	}
	return m.Below(4)
}

// AnyNet is a network with anything in it.
func AnyNet(m *oracle.Mixer) api.Net {
	n := MixedNet(m)
	if m.Below(2) == 0 {
		n.In = Shape(AnyWhole(m), AnyWhole(m), AnyWhole(m))
	}
	for i := range n.Layers {
		l := &n.Layers[i]
		switch m.Below(8) {
		case 0:
			l.Kind = AnyWhole(m)
		case 1:
			*wholesIn(l)[1+m.Below(8)] = AnyWhole(m)
		case 2:
			l.A = api.Float(m.Word())
		case 3:
			l.W = append(l.W, math.NaN())
		case 4:
			l.Z = nil
		}
	}
	if m.Below(3) == 0 {
		n.Names = []string{"a", string([]byte{byte(m.Word())})}
	}
	return n
}
