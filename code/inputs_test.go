package code

import (
	"bytes"
	"fmt"
	"slices"
	"testing"

	"ambit/api"
	"ambit/model"
	"ambit/oracle"
)

func shape(c, h, w int) api.Shape { return api.Shape{C: c, H: h, W: w} }

// line is the shape of so many coordinates in one row.
func line(n int) api.Shape { return shape(1, 1, n) }

// ones are n numbers, all of them 1.
func ones(n int) []float64 { return slices.Repeat([]float64{1}, n) }

// columns are k lists of n numbers.
func columns(k, n int) [][]float64 {
	var l [][]float64
	for range k {
		l = append(l, ones(n))
	}
	return l
}

// counted are the numbers 1, 2, 3 and so on, so that each tells where it stood; every third one is turned, and there are noughts with and without a sign among them.
func counted(n int) []float64 {
	l := make([]float64, n)
	for i := range l {
		l[i] = float64(i + 1)
		switch i % 6 {
		case 2:
			l[i] = -l[i] / 8
		case 4:
			l[i] = oracle.MinusZero()
		case 5:
			l[i] = 0
		}
	}
	return l
}

// filled is a layer with the lists that it must have: no two of them alike.
func filled(l api.Layer, in api.Shape) api.Layer {
	w, b, z, zb, _ := model.Lists(l, in)
	all := counted(w + b + 2*(z+zb))
	l.W, l.B = slices.Clone(all[:w]), slices.Clone(all[w:w+b])
	l.Z, l.ZB = nil, nil
	for i := range z + zb {
		l.Z = append(l.Z, complex(all[2*i], all[2*i+1]))
	}
	l.Z, l.ZB = l.Z[:z], slices.Clone(l.Z[z:])
	return l
}

// windowed is a layer of a kind that goes by windows, with its rows and columns, steps and noughts.
func windowed(kind, kh, kw, sh, sw, ph, pw int) api.Layer {
	l := api.Layer{Kind: kind, KH: kh, KW: kw, SH: sh, SW: sw, PH: ph, PW: pw}
	switch kind {
	case api.KConv:
		l.Out = 2
	case api.KMean:
		l.A = -0.25
	}
	return l
}

func relu() api.Layer { return api.Layer{Kind: api.KRelu} }

func dense(out int) api.Layer { return api.Layer{Kind: api.KDense, Out: out} }

func turn(out int) api.Layer { return api.Layer{Kind: api.KTurn, Out: out} }

func leaky(a float64) api.Layer { return api.Layer{Kind: api.KLeaky, A: a} }

func add(from int) api.Layer { return api.Layer{Kind: api.KAdd, From: from} }

// network is one of these layers, each with the lists that it must have behind those ahead.
func network(in api.Shape, layers ...api.Layer) api.Net {
	n := api.Net{In: in}
	for _, l := range layers {
		n.Layers = append(n.Layers, filled(l, in))
		in, _ = model.Out(l, in)
	}
	return n
}

func named(n api.Net, names ...string) api.Net {
	n.Names = names
	return n
}

// chain is a network with a layer of each kind.
func chain() api.Net {
	return named(network(shape(2, 3, 4),
		windowed(api.KConv, 2, 3, 1, 1, 1, 1),
		api.Layer{Kind: api.KScale},
		windowed(api.KMean, 2, 2, 1, 1, 0, 1),
		relu(),
		add(3),
		windowed(api.KMax, 2, 2, 2, 3, 1, 0),
		turn(3),
		leaky(0.25),
		api.Layer{Kind: api.KTanh},
		dense(3),
		api.Layer{Kind: api.KSigmoid},
		api.Layer{Kind: api.KSquare},
	), "a", "zwölf", "𝄞!")
}

// kinds are networks of one layer of each kind, but KAdd with two ahead of it.
func kinds() []api.Net {
	in := shape(2, 3, 4)
	return []api.Net{
		network(in, dense(5)),
		network(in, windowed(api.KConv, 2, 3, 1, 4, 1, 2)),
		network(in, api.Layer{Kind: api.KScale}),
		network(in, windowed(api.KMean, 2, 3, 1, 4, 1, 2)),
		network(in, relu(), api.Layer{Kind: api.KTanh}, add(1)),
		network(in, turn(2)),
		network(in, relu()),
		network(in, leaky(0.75)),
		network(in, api.Layer{Kind: api.KTanh}),
		network(in, api.Layer{Kind: api.KSigmoid}),
		network(in, api.Layer{Kind: api.KSquare}),
		network(in, windowed(api.KMax, 2, 3, 1, 4, 1, 2)),
	}
}

// nets are ordinary networks, small ones ahead.
func nets() []api.Net {
	all := []api.Net{
		{In: line(2)},
		named(network(line(1), leaky(0.5)), "é"),
		network(line(1), leaky(oracle.MinusZero())),
		network(line(1), dense(1)),
		named(network(line(2), turn(1)), "re", "im"),
		network(line(3), relu(), relu(), add(0), add(2)),
	}
	return append(append(all, kinds()...), chain())
}

// question is one to a network of 3 input and 4 output coordinates: no two of its lists are alike.
func question() api.Prop {
	all := counted(3 * 6)
	p := api.Prop{C: slices.Clone(all[:3]), Target: 2, K: 2, Depth: 3, Looks: 300}
	for k := range 5 {
		p.G = append(p.G, slices.Clone(all[3*k+3:3*k+6]))
	}
	for i := range 3 {
		p.Claims = append(p.Claims, slices.Clone(all[i:i+5]))
	}
	return p
}

// props are ordinary questions, small ones ahead.
func props() []api.Prop {
	least := api.Prop{C: []float64{0}, K: 1, Looks: 1}
	high := api.Prop{C: []float64{oracle.MinusZero(), 2}, Target: 255, K: 8, Depth: 8, Looks: 1024}
	claims := api.Prop{C: []float64{oracle.Max}, G: [][]float64{{-oracle.Least}}, Target: -1, Claims: [][]float64{{1, oracle.MinusZero()}}, K: 3, Depth: 1, Looks: 128}
	one := claims
	one.Target = 0
	return []api.Prop{least, high, claims, one, question()}
}

func sameNumbers(a, b []float64) bool { return slices.EqualFunc(a, b, oracle.Same) }

func sameLists(a, b [][]float64) bool { return slices.EqualFunc(a, b, sameNumbers) }

func sameComplex(a, b complex128) bool {
	return oracle.Same(real(a), real(b)) && oracle.Same(imag(a), imag(b))
}

// wholesIn are all of a layer's whole numbers.
func wholesIn(l api.Layer) [9]int {
	return [...]int{l.Kind, l.Out, l.KH, l.KW, l.SH, l.SW, l.PH, l.PW, l.From}
}

func sameLayer(a, b api.Layer) bool {
	return wholesIn(a) == wholesIn(b) && oracle.Same(a.A, b.A) && sameNumbers(a.W, b.W) && sameNumbers(a.B, b.B) &&
		slices.EqualFunc(a.Z, b.Z, sameComplex) && slices.EqualFunc(a.ZB, b.ZB, sameComplex)
}

// sameNet tells whether two networks are alike, bit for bit; nil and empty lists are.
func sameNet(a, b api.Net) bool {
	return a.In == b.In && slices.EqualFunc(a.Layers, b.Layers, sameLayer) && slices.Equal(a.Names, b.Names)
}

func sameProp(a, b api.Prop) bool {
	return sameNumbers(a.C, b.C) && sameLists(a.G, b.G) && sameLists(a.Claims, b.Claims) &&
		[4]int{a.Target, a.K, a.Depth, a.Looks} == [4]int{b.Target, b.K, b.Depth, b.Looks}
}

// shown is bytes as an error tells them: no more than the first ones.
func shown(b []byte) string {
	if len(b) > 60 {
		return fmt.Sprintf("%x.. (%d bytes)", b[:60], len(b))
	}
	return fmt.Sprintf("%x", b)
}

// expectNetBytes holds a network to its bytes, both ways.
func expectNetBytes(t *testing.T, n api.Net, want []byte) {
	t.Helper()
	if b, e, at := EncodeNet(n); e != api.OK || at != 0 || !bytes.Equal(b, want) {
		t.Errorf("EncodeNet(%+v): %s %v %d, not %s", n, shown(b), e, at, shown(want))
	}
	if got, e, at := DecodeNet(want); e != api.OK || at != 0 || !sameNet(got, n) {
		t.Errorf("DecodeNet(%s): %+v %v %d, not %+v", shown(want), got, e, at, n)
	}
}

func expectPropBytes(t *testing.T, p api.Prop, want []byte) {
	t.Helper()
	if b, e, at := EncodeProp(p); e != api.OK || at != 0 || !bytes.Equal(b, want) {
		t.Errorf("EncodeProp(%+v): %s %v %d, not %s", p, shown(b), e, at, shown(want))
	}
	if got, e, at := DecodeProp(want); e != api.OK || at != 0 || !sameProp(got, p) {
		t.Errorf("DecodeProp(%s): %+v %v %d, not %+v", shown(want), got, e, at, p)
	}
}

// expectNoNet holds DecodeNet to an error and its place, and to nothing beside them.
func expectNoNet(t *testing.T, b []byte, e api.Errno, at int) {
	t.Helper()
	if n, f, place := DecodeNet(b); f != e || place != at || !sameNet(n, api.Net{}) {
		t.Errorf("DecodeNet(%s): %+v beside %v at %d, not %v at %d alone", shown(b), n, f, place, e, at)
	}
}

func expectNoProp(t *testing.T, b []byte, e api.Errno, at int) {
	t.Helper()
	if p, f, place := DecodeProp(b); f != e || place != at || !sameProp(p, api.Prop{}) {
		t.Errorf("DecodeProp(%s): %+v beside %v at %d, not %v at %d alone", shown(b), p, f, place, e, at)
	}
}

// expectNoNetBytes holds EncodeNet to what model.Check tells, and to nothing beside it.
func expectNoNetBytes(t *testing.T, n api.Net, e api.Errno, at int) {
	t.Helper()
	if b, f, place := EncodeNet(n); f != e || place != at || len(b) != 0 {
		t.Errorf("EncodeNet of %d layers and %d names over %v: %s beside %v at %d, not %v at %d alone", len(n.Layers), len(n.Names), n.In, shown(b), f, place, e, at)
	}
	if f, place := model.Check(n); f != e || place != at {
		t.Errorf("model.Check of %d layers and %d names over %v: %v at %d, not %v at %d", len(n.Layers), len(n.Names), n.In, f, place, e, at)
	}
}

// expectForm holds CheckForm to an error and its place, and EncodeProp to the same.
func expectForm(t *testing.T, p api.Prop, e api.Errno, at int) {
	t.Helper()
	if f, place := CheckForm(p); f != e || place != at {
		t.Errorf("CheckForm(%+v): %v at %d, not %v at %d", p, f, place, e, at)
	}
	b, f, place := EncodeProp(p)
	if f != e || place != at || (e == api.OK) != (len(b) != 0) {
		t.Errorf("EncodeProp(%+v): %s beside %v at %d, not %v at %d", p, shown(b), f, place, e, at)
	}
}
