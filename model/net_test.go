package model

import (
	"math"
	"slices"
	"strconv"
	"testing"

	"ambit/api"
)

// someNames are n names, no two of them the same.
func someNames(n int) []string {
	var l []string
	for i := range n {
		l = append(l, "n"+strconv.Itoa(i))
	}
	return l
}

// repeat is n layers, all the same.
func repeat(l api.Layer, n int) []api.Layer { return slices.Repeat([]api.Layer{l}, n) }

// chain is a network of all kinds, with a sum of the input and one of a later output.
func chain() api.Net {
	n := api.Net{In: shape(2, 3, 4)}
	mean := window(api.KMean, 1, 2, 1, 2, 0, 1)
	mean.A = 0.5
	conv := window(api.KConv, 2, 2, 1, 2, 1, 1)
	conv.Out, conv.W, conv.B = 3, ones(3*2*2*2), ones(3)
	n.Layers = []api.Layer{
		relu(), add(0), {Kind: api.KScale, W: ones(2), B: ones(2)}, {Kind: api.KLeaky, A: 0.5}, add(3),
		conv, window(api.KMax, 2, 2, 1, 1, 0, 0), mean, {Kind: api.KTanh}, turn(2, 18), {Kind: api.KSquare}, dense(3, 4), {Kind: api.KSigmoid},
	}
	n.Names = []string{"one", "two", "três"}
	return n
}

// 6.4, 6.5
func TestChain(t *testing.T) {
	n := chain()
	in := shape(2, 3, 4)
	want := []api.Shape{in, in, in, in, in, in, shape(3, 4, 3), shape(3, 3, 2), shape(3, 3, 2), shape(3, 3, 2), shape(4, 1, 1), shape(4, 1, 1), shape(3, 1, 1), shape(3, 1, 1)}
	expectNet(t, n, api.OK, 0)
	got, e, at := Shapes(n)
	if !slices.Equal(got, want) || e != api.OK || at != 0 {
		t.Errorf("Shapes: %v %v %d, not %v", got, e, at, want)
	}
}

// 6.4, 6.5: a network without layers tells its input.
func TestNoLayers(t *testing.T) {
	for _, in := range []api.Shape{line(1), line(256), shape(256, 1, 1), shape(2, 3, 4)} {
		for _, layers := range [][]api.Layer{nil, {}} {
			for _, names := range [][]string{nil, {}} {
				n := api.Net{In: in, Layers: layers, Names: names}
				expectNet(t, n, api.OK, 0)
				if s, _, _ := Shapes(n); !slices.Equal(s, []api.Shape{in}) {
					t.Errorf("Shapes over %v: %v", in, s)
				}
			}
		}
	}
}

// 6.4: the input goes ahead of the number of layers, that ahead of the layers, they ahead of the names.
func TestOrderInNetworks(t *testing.T) {
	wrong := api.Layer{Kind: 13}
	bad := []string{"", ""}
	for _, in := range []api.Shape{{}, line(257), shape(1, -1, 1), shape(1<<32, 1<<32, 1)} {
		expectNet(t, api.Net{In: in, Layers: repeat(wrong, 65), Names: bad}, api.ErrShape, 0)
	}
	expectNet(t, api.Net{In: line(2), Layers: repeat(wrong, 65), Names: bad}, api.ErrSize, 0)
	expectNet(t, api.Net{In: line(2), Layers: repeat(wrong, 64), Names: bad}, api.ErrKind, 1)
	for _, c := range []struct {
		wrong api.Layer
		e     api.Errno
	}{
		{wrong, api.ErrKind},
		{api.Layer{Kind: api.KRelu, A: 1}, api.ErrField},
		{api.Layer{Kind: api.KLeaky, A: math.Inf(-1)}, api.ErrNumber},
		{window(api.KMax, 2, 1, 1, 1, 0, 0), api.ErrShape},
		{dense(2, 3), api.ErrCount},
		{add(64), api.ErrFrom},
	} {
		for _, m := range []int{1, 2, 37, 64} {
			n := api.Net{In: line(2), Layers: repeat(relu(), 64), Names: bad}
			n.Layers[m-1] = c.wrong
			expectNet(t, n, c.e, m)
			if m < 64 {
				n.Layers[m] = wrong // what is behind is not told
				expectNet(t, n, c.e, m)
			}
		}
	}
	for _, names := range [][]string{{""}, {"a", "b", "b"}} {
		expectNet(t, api.Net{In: line(2), Layers: repeat(relu(), 64), Names: names}, api.ErrCount, 0)
	}
	expectNet(t, api.Net{In: line(2), Layers: repeat(relu(), 64), Names: bad}, api.ErrName, 0)
}

// 6.4: 64 layers, and one more.
func TestNumberOfLayers(t *testing.T) {
	for _, l := range []api.Layer{relu(), add(0), dense(2, 2), {Kind: api.KTanh}} {
		for _, n := range []int{1, 2, 63, 64} {
			expectNet(t, api.Net{In: line(2), Layers: repeat(l, n)}, api.OK, 0)
		}
		for _, n := range []int{65, 66, 1000} {
			expectNet(t, api.Net{In: line(2), Layers: repeat(l, n)}, api.ErrSize, 0)
		}
	}
}

// 6.4: a layer is held against the shape ahead of it, not against the input.
func TestLayersFollowEachOther(t *testing.T) {
	n := api.Net{In: line(2), Layers: []api.Layer{dense(3, 2), dense(4, 3), dense(5, 4)}}
	expectNet(t, n, api.OK, 0)
	n.Layers[2] = dense(5, 3)
	expectNet(t, n, api.ErrCount, 3)
	n.Layers[1] = dense(3, 3)
	expectNet(t, n, api.OK, 0)
	n.Layers[0] = turn(1, 2)
	expectNet(t, n, api.ErrCount, 2)
	expectNet(t, api.Net{In: line(2), Layers: []api.Layer{dense(3, 2), turn(1, 2)}}, api.ErrShape, 2)
}

// 6.4: From names an output ahead, of the same shape.
func TestFrom(t *testing.T) {
	for m := 1; m <= 64; m++ {
		for from := 0; from <= 64; from++ {
			n := api.Net{In: line(3), Layers: repeat(relu(), m)}
			n.Layers[m-1] = add(from)
			if from < m {
				expectNet(t, n, api.OK, 0)
			} else {
				expectNet(t, n, api.ErrFrom, m)
			}
		}
		n := api.Net{In: line(3), Layers: repeat(relu(), m)}
		n.Layers[m-1] = add(65)
		expectNet(t, n, api.ErrField, m)
		n.Layers[m-1] = add(-1)
		expectNet(t, n, api.ErrField, m)
	}
}

// 6.4: shapes are held against each other side by side, not by their sizes.
func TestFromOfAnotherShape(t *testing.T) {
	// The outputs have the sizes 4, 4, 4, 2, 4.
	layers := []api.Layer{relu(), dense(4, 4), dense(2, 4), dense(4, 2)}
	for from, e := range []api.Errno{api.ErrFrom, api.ErrFrom, api.OK, api.ErrFrom, api.OK, api.ErrFrom} {
		at := 5
		if e == api.OK {
			at = 0
		}
		expectNet(t, api.Net{In: line(4), Layers: append(layers[:4:4], add(from))}, e, at)
	}
	expectNet(t, api.Net{In: shape(4, 1, 1), Layers: append(layers[:4:4], add(0))}, api.OK, 0)
	expectNet(t, api.Net{In: shape(2, 2, 1), Layers: append(layers[:4:4], add(1))}, api.ErrFrom, 5)
	pool := window(api.KMax, 2, 1, 1, 1, 1, 0)
	expectNet(t, api.Net{In: shape(1, 2, 3), Layers: []api.Layer{pool, window(api.KMax, 2, 1, 1, 1, 0, 0), add(0)}}, api.OK, 0)
	expectNet(t, api.Net{In: shape(1, 2, 3), Layers: []api.Layer{pool, window(api.KMax, 2, 1, 1, 1, 0, 0), add(1)}}, api.ErrFrom, 3)
	// The same rows, the same columns, other channels.
	conv := window(api.KConv, 1, 1, 1, 1, 0, 0)
	conv.Out, conv.W, conv.B = 2, ones(2), ones(2)
	expectNet(t, api.Net{In: shape(1, 2, 3), Layers: []api.Layer{conv, add(0)}}, api.ErrFrom, 2)
}

// 6.4: the layer's own error goes ahead of From's, that ahead of the number of weights.
func TestOrderWithinALayer(t *testing.T) {
	spoiltAdd := add(2)
	spoiltAdd.W = ones(1)
	expectNet(t, api.Net{In: line(2), Layers: []api.Layer{relu(), spoiltAdd}}, api.ErrCount, 2)
	spoiltAdd.From = 65
	expectNet(t, api.Net{In: line(2), Layers: []api.Layer{relu(), spoiltAdd}}, api.ErrField, 2)
	great := dense(256, 256)
	expectNet(t, api.Net{In: line(256), Layers: []api.Layer{great, add(9)}}, api.ErrSize, 1)
	great.W[65535] = math.NaN()
	expectNet(t, api.Net{In: line(256), Layers: []api.Layer{great}}, api.ErrNumber, 1)
	great.W = great.W[:65535]
	expectNet(t, api.Net{In: line(256), Layers: []api.Layer{great}}, api.ErrCount, 1)
}

// 6.4: numbers are counted over all layers up to this one, and told at the one that is too much.
func TestNumberOfWeights(t *testing.T) {
	almost := dense(255, 256) // 65,535 numbers
	scale := api.Layer{Kind: api.KScale, W: ones(1), B: ones(1)}
	for _, c := range []struct {
		layers []api.Layer
		e      api.Errno
		at     int
	}{
		{[]api.Layer{almost, relu(), add(1)}, api.OK, 0},
		{[]api.Layer{scale, almost}, api.ErrSize, 2},
		{[]api.Layer{relu(), almost, relu(), dense(1, 255), {Kind: 13}}, api.ErrSize, 4},
		{[]api.Layer{dense(256, 256)}, api.ErrSize, 1},
		// 65,278 and 255, then 2 each: 65,535, then 65,537.
		{[]api.Layer{dense(254, 256), dense(1, 254), dense(1, 1)}, api.OK, 0},
		{[]api.Layer{dense(254, 256), dense(1, 254), dense(1, 1), dense(1, 1)}, api.ErrSize, 4},
	} {
		expectNet(t, api.Net{In: line(256), Layers: c.layers}, c.e, c.at)
	}
}

// 6.4: just 65,536 numbers, of which a complex one is two.
func TestNumberOfWeightsOfTurns(t *testing.T) {
	// 127 * 128 + 127 complex numbers, 128 * 127 + 128, and two real ones.
	first, second := turn(127, 256), turn(128, 254)
	scale := api.Layer{Kind: api.KScale, W: ones(1), B: ones(1)}
	n := api.Net{In: line(256), Layers: []api.Layer{scale, first, second}}
	if w := Weights(n); w != api.MaxWeights {
		t.Fatalf("%d numbers", w)
	}
	expectNet(t, n, api.OK, 0)
	n.Layers = []api.Layer{scale, scale, first, second}
	expectNet(t, n, api.ErrSize, 4)
	n.Layers = []api.Layer{turn(128, 256), turn(128, 256)}
	expectNet(t, n, api.ErrSize, 2)
}

// 6.4: names, as many as the last output has coordinates.
func TestNumberOfNames(t *testing.T) {
	for _, size := range []int{1, 2, 3, 255, 256} {
		for _, count := range []int{1, 2, 3, 254, 255, 256, 257} {
			n := api.Net{In: line(2), Layers: []api.Layer{dense(size, 2)}, Names: someNames(count)}
			if count == size {
				expectNet(t, n, api.OK, 0)
			} else {
				expectNet(t, n, api.ErrCount, 0)
			}
		}
	}
	expectNet(t, api.Net{In: shape(2, 3, 2), Names: someNames(12)}, api.OK, 0)
	expectNet(t, api.Net{In: shape(2, 3, 2), Names: someNames(2)}, api.ErrCount, 0)
}

// 6.4: each place of the names, and each pair of places.
func TestNamesThatMayNotBe(t *testing.T) {
	for i := range 12 {
		for _, s := range []string{"", "a b", "#", "a\xff"} {
			n := api.Net{In: shape(2, 3, 2), Names: someNames(12)}
			n.Names[i] = s
			expectNet(t, n, api.ErrName, 0)
		}
		for j := range i {
			n := api.Net{In: shape(2, 3, 2), Names: someNames(12)}
			n.Names[i] = n.Names[j]
			expectNet(t, n, api.ErrName, 0)
		}
	}
	// Names are bytes: what looks alike is unlike.
	expectNet(t, api.Net{In: line(4), Names: []string{"a", "A", "é", "e\u0301"}}, api.OK, 0)
}

// 6.6
func TestWeights(t *testing.T) {
	if w := Weights(chain()); w != 2+2+24+3+2*(18+2)+12+3 {
		t.Errorf("Weights of the chain: %d", w)
	}
	if w := Weights(api.Net{}); w != 0 {
		t.Errorf("Weights of nothing: %d", w)
	}
	// Check refuses this one, for many reasons.
	odd := api.Layer{Kind: -7, Out: math.MinInt, A: math.NaN(), W: ones(3), B: ones(5), Z: complexOnes(7), ZB: complexOnes(11)}
	for n := range 70 {
		if w := Weights(api.Net{Layers: repeat(odd, n), Names: []string{""}}); w != n*44 {
			t.Errorf("Weights of %d odd layers: %d", n, w)
		}
	}
	for i, want := range []int{3, 5, 14, 22} {
		l := odd
		switch i {
		case 0:
			l.B, l.Z, l.ZB = nil, nil, nil
		case 1:
			l.W, l.Z, l.ZB = nil, nil, nil
		case 2:
			l.W, l.B, l.ZB = nil, nil, nil
		case 3:
			l.W, l.B, l.Z = nil, nil, nil
		}
		if w := Weights(api.Net{Layers: []api.Layer{l}}); w != want {
			t.Errorf("Weights of list %d alone: %d, not %d", i, w, want)
		}
	}
}
