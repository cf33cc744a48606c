package model

import (
	"fmt"
	"math"
	"slices"
	"testing"

	"ambit/api"
	"ambit/oracle"
)

// filled is a layer with the lists that it must have.
func filled(l api.Layer, in api.Shape) api.Layer {
	w, b, z, zb, _ := Lists(l, in)
	l.W, l.B, l.Z, l.ZB = ones(w), ones(b), complexOnes(z), complexOnes(zb)
	return l
}

// someNet is a network of some layers, each over the shape that the one ahead of it tells; many may be, some may not.
func someNet(m *oracle.Mixer) api.Net {
	n := api.Net{In: someShape(m)}
	s := n.In
	for range m.Below(8) {
		l := nearly(m)
		told, e := Out(l, s)
		for tries := 0; e != api.OK && tries < 6; tries++ {
			l = nearly(m)
			told, e = Out(l, s)
		}
		n.Layers = append(n.Layers, filled(l, s))
		s = told
	}
	if size, _ := Size(s); m.Below(3) == 0 {
		n.Names = someNames(size)
	}
	return n
}

// checkByWords is the chapter's order of a network's errors, read once more.
func checkByWords(n api.Net) (api.Errno, int) {
	if _, e := sizeByWords(n.In); e != api.OK {
		return e, 0
	}
	outputs := []api.Shape{n.In}
	for m, l := range n.Layers {
		ahead := outputs[m]
		told, e := outByWords(l, ahead)
		if e != api.OK {
			return e, m + 1
		}
		if l.Kind == api.KAdd && (l.From > m || outputs[min(l.From, m)] != ahead) {
			return api.ErrFrom, m + 1
		}
		outputs = append(outputs, told)
	}
	return api.OK, 0
}

// 6.4, 6.5, 6.9: what is taken has shapes, each window something within, and each beginning is taken.
func TestNetworksThatAreTaken(t *testing.T) {
	var m oracle.Mixer
	taken, refused := 0, 0
	for range 20000 {
		n := someNet(&m)
		want, place := checkByWords(n)
		expectNet(t, n, want, place)
		shapes, e, _ := Shapes(n)
		if e != api.OK {
			refused++
			continue
		}
		taken++
		for i, s := range shapes {
			if size, f := sizeByWords(s); f != api.OK || size < 1 || size > api.MaxWidth {
				t.Errorf("output %d of %+v: %v", i, n, s)
			}
			begin := api.Net{In: n.In, Layers: n.Layers[:i]}
			expectNet(t, begin, api.OK, 0)
			if told, _, _ := Shapes(begin); !slices.Equal(told, shapes[:i+1]) {
				t.Errorf("the first %d layers tell %v, all of them %v", i, told, shapes)
			}
		}
		for i, l := range n.Layers {
			expectWindows(t, l, shapes[i], shapes[i+1])
		}
		if t.Failed() {
			return
		}
	}
	if taken < 3000 || refused < 3000 {
		t.Errorf("%d taken, %d refused", taken, refused)
	}
}

// expectWindows looks into every window of a layer, by the place of its corner.
func expectWindows(t *testing.T, l api.Layer, in, out api.Shape) {
	t.Helper()
	if l.KH == 0 {
		return
	}
	for _, at := range coordinates(out) {
		rows := inside(at[1]*l.SH-l.PH, l.KH, in.H)
		columns := inside(at[2]*l.SW-l.PW, l.KW, in.W)
		if len(rows) == 0 || len(columns) == 0 {
			t.Errorf("an empty window at %v of %+v over %v", at, l, in)
		}
	}
}

// 6.9: every layer that goes by windows over short sides.
func TestNoWindowIsEmpty(t *testing.T) {
	for size := 1; size <= 18; size++ {
		for k := 1; k <= 16; k++ {
			for step := 1; step <= 16; step++ {
				for pad := -1; pad <= k; pad++ {
					l := window(api.KMax, k, 1, step, 1, pad, 0)
					out, e := Out(l, shape(1, size, 1))
					if e == api.OK {
						expectWindows(t, l, shape(1, size, 1), out)
					}
				}
			}
		}
	}
}

// 6.10: whatever is handed in, every call ends, and tells nothing beside an error.
func TestAnyInputs(t *testing.T) {
	var m oracle.Mixer
	for range 30000 {
		l := anyLayer(&m)
		in := shape(mixed(&m), mixed(&m), mixed(&m))
		if n, e := Size(in); e != api.OK && n != 0 {
			t.Errorf("Size(%v): %d beside %v", in, n, e)
		}
		if s, e := Out(l, in); e != api.OK && s != (api.Shape{}) {
			t.Errorf("Out(%+v, %v): %v beside %v", l, in, s, e)
		}
		if w, b, z, zb, e := Lists(l, in); e != api.OK && (w != 0 || b != 0 || z != 0 || zb != 0) {
			t.Errorf("Lists(%+v, %v): %d %d %d %d beside %v", l, in, w, b, z, zb, e)
		}
		Layer(l, in)
		n := api.Net{In: in, Layers: []api.Layer{relu(), l, anyLayer(&m)}, Names: []string{"", "\xff"}}
		if s, e, _ := Shapes(n); e != api.OK && len(s) != 0 {
			t.Errorf("Shapes(%+v): %v beside %v", n, s, e)
		}
		Check(n)
		Weights(n)
		p := api.Prop{C: anyNumbers(&m), G: [][]float64{anyNumbers(&m), nil}, Target: mixed(&m), Claims: [][]float64{anyNumbers(&m)}, K: mixed(&m), Depth: mixed(&m), Looks: mixed(&m)}
		if e, at := CheckProp(p, mixed(&m), mixed(&m)); e == api.OK && at != 0 {
			t.Errorf("CheckProp(%+v): OK at %d", p, at)
		}
	}
}

// anyLayer is one with anything in it.
func anyLayer(m *oracle.Mixer) api.Layer {
	l := api.Layer{Kind: mixed(m), W: anyNumbers(m), B: anyNumbers(m), A: api.Float(m.Word())}
	for _, f := range fields() {
		*f.of(&l) = mixed(m)
	}
	for range m.Below(4) {
		l.Z = append(l.Z, api.Complex(m.Word(), m.Word()))
	}
	return l
}

func anyNumbers(m *oracle.Mixer) []float64 {
	var l []float64
	for range m.Below(5) {
		l = append(l, m.Number(m.Below(2000)-1000))
	}
	if m.Below(4) == 0 {
		l = append(l, math.NaN())
	}
	return l
}

// roomy is a list with more behind its end.
func roomy[T any](l []T, behind T) []T {
	return append(slices.Clone(l), behind, behind, behind)[:len(l)]
}

// roomyNet is the chain, with room behind each of its lists.
func roomyNet() api.Net {
	n := chain()
	for i, l := range n.Layers {
		l.W, l.B = roomy(l.W, 7), roomy(l.B, 8)
		l.Z, l.ZB = roomy(l.Z, 9i), roomy(l.ZB, 10i)
		n.Layers[i] = l
	}
	n.Layers = roomy(n.Layers, dense(1, 1))
	n.Names = roomy(n.Names, "behind")
	return n
}

func roomyProp() api.Prop {
	p := ordinary()
	p.C = roomy(p.C, 7)
	for i, g := range p.G {
		p.G[i] = roomy(g, 8)
	}
	for i, c := range p.Claims {
		p.Claims[i] = roomy(c, 9)
	}
	p.G, p.Claims = roomy(p.G, []float64{1}), roomy(p.Claims, []float64{2})
	return p
}

// whole tells all of a list, with the room behind its end.
func whole[T any](l []T) []T { return l[:cap(l)] }

// netText tells a network, and the room behind its lists.
func netText(n api.Net) string {
	s := fmt.Sprintf("%v %q\n", n.In, whole(n.Names))
	for _, l := range whole(n.Layers) {
		s += fmt.Sprintf("%+v %v %v %v %v\n", l, whole(l.W), whole(l.B), whole(l.Z), whole(l.ZB))
	}
	return s
}

func propText(p api.Prop) string {
	s := fmt.Sprintf("%+v %v\n", p, whole(p.C))
	for _, g := range whole(p.G) {
		s += fmt.Sprintln(whole(g))
	}
	for _, c := range whole(p.Claims) {
		s += fmt.Sprintln(whole(c))
	}
	return s
}

// 6.10: what is handed in stays as it was, and the room behind it too.
func TestNothingIsChanged(t *testing.T) {
	n := roomyNet()
	before := netText(n)
	expectNet(t, n, api.OK, 0)
	Weights(n)
	shapes, _, _ := Shapes(n)
	for i, l := range n.Layers {
		Out(l, shapes[i])
		Lists(l, shapes[i])
		expectLayer(t, l, shapes[i], api.OK)
	}
	// One that is refused at its end has been gone through all the same.
	n.Names[2] = n.Names[0]
	expectNet(t, n, api.ErrName, 0)
	n.Names[2] = "três"
	if after := netText(n); after != before {
		t.Errorf("%s\nwas\n%s", after, before)
	}
	p := roomyProp()
	before = propText(p)
	expectProp(t, p, 3, 4, api.OK, 0)
	expectProp(t, p, 3, 5, api.ErrCount, 6)
	if after := propText(p); after != before {
		t.Errorf("%s\nwas\n%s", after, before)
	}
}

// 6.10: whoever writes into an answer, behind its end too, changes nothing else.
func TestAnswersAreNewMemory(t *testing.T) {
	n := roomyNet()
	before := netText(n)
	first, _, _ := Shapes(n)
	want := slices.Clone(first)
	second, _, _ := Shapes(n)
	for i := range whole(second) {
		whole(second)[i] = shape(-1, -2, -3)
	}
	third, _, _ := Shapes(n)
	if !slices.Equal(first, want) || !slices.Equal(third, want) || netText(n) != before {
		t.Error("an answer was written into, and something else changed")
	}
}

// 6.10: what was told does not hang on what was handed in later.
func TestNothingIsKept(t *testing.T) {
	n := chain()
	first, _, _ := Shapes(n)
	want := slices.Clone(first)
	n.In = line(1)
	n.Layers[0].Kind = 13
	n.Names[0] = ""
	if !slices.Equal(first, want) {
		t.Error("the answer went with the network")
	}
	expectNet(t, n, api.ErrKind, 1)
	expectNet(t, chain(), api.OK, 0)
}
