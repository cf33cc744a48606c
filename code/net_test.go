package code

import (
	"fmt"
	"math"
	"slices"
	"strings"
	"testing"

	"ambit/api"
	"ambit/model"
	"ambit/oracle"
	"ambit/samples"
)

// 8.1, 8.2, 8.6: each kind with the fields and lists that it has.
func TestBytesOfNetworks(t *testing.T) {
	seen := map[int]bool{}
	for _, n := range samples.Nets() {
		expectNetBytes(t, n, layNet(n).b)
		for _, l := range n.Layers {
			seen[l.Kind] = true
		}
	}
	if len(seen) != 12 {
		t.Errorf("%d kinds came up, not 12", len(seen))
	}
}

// 8.1: a complex number is its real part ahead of its imaginary one; Z goes ahead of ZB, W ahead of B.
func TestOrderOfNumbers(t *testing.T) {
	of := func(l ...float64) []byte {
		var b []byte
		for _, a := range l {
			b = append(b, numberBytes(a)...)
		}
		return b
	}
	n := api.Net{In: samples.Line(2), Layers: []api.Layer{{Kind: api.KTurn, Out: 2, Z: []complex128{1 + 2i, 3 + 4i}, ZB: []complex128{5 + 6i, 7 + 8i}}}}
	expectNetBytes(t, n, sealed(netBytes([]byte{1, 1, 2, 1, 6, 2}, of(1, 2, 3, 4, 5, 6, 7, 8), []byte{0})...))
	n = api.Net{In: samples.Line(2), Layers: []api.Layer{{Kind: api.KDense, Out: 2, W: []float64{1, 2, 3, 4}, B: []float64{5, 6}}}}
	expectNetBytes(t, n, sealed(netBytes([]byte{1, 1, 2, 1, 1, 2}, of(1, 2, 3, 4, 5, 6), []byte{0})...))
	conv := api.Layer{Kind: api.KConv, Out: 1, KH: 3, KW: 2, SH: 4, SW: 5, PH: 2, PW: 1, W: []float64{1, 2, 3, 4, 5, 6}, B: []float64{7}}
	n = api.Net{In: samples.Shape(1, 6, 7), Layers: []api.Layer{conv}}
	expectNetBytes(t, n, sealed(netBytes([]byte{1, 6, 7, 1, 2, 1, 3, 2, 4, 5, 2, 1}, of(1, 2, 3, 4, 5, 6, 7), []byte{0})...))
	n = api.Net{In: samples.Shape(1, 6, 7), Layers: []api.Layer{{Kind: api.KMean, KH: 3, KW: 2, SH: 4, SW: 5, PH: 2, PW: 1, A: -2}}}
	expectNetBytes(t, n, sealed(netBytes([]byte{1, 6, 7, 1, 4, 3, 2, 4, 5, 2, 1}, of(-2), []byte{0})...))
}

// 8.1, 8.2, 8.6: numbers are carried, bit for bit.
func TestNumbersOfNetworksAreCarried(t *testing.T) {
	for _, a := range oracle.Edges() {
		n := samples.Network(samples.Line(2), samples.Dense(1), samples.Windowed(api.KMean, 1, 1, 1, 1, 0, 0))
		n.Layers[0].W[1], n.Layers[0].B[0], n.Layers[1].A = a, -a, a
		expectNetBytes(t, n, layNet(n).b)
		n = samples.Network(samples.Line(2), samples.Turn(1))
		n.Layers[0].Z[0], n.Layers[0].ZB[0] = complex(a, -a), complex(-a, a)
		expectNetBytes(t, n, layNet(n).b)
	}
}

// 8.2: nil and an empty list are the same.
func TestEmptyListsOfNetworks(t *testing.T) {
	n := api.Net{In: samples.Line(2), Layers: []api.Layer{{Kind: api.KRelu, W: []float64{}, B: []float64{}, Z: []complex128{}, ZB: []complex128{}}}, Names: []string{}}
	expectNetBytes(t, n, layNet(samples.Network(samples.Line(2), samples.Relu())).b)
	expectNetBytes(t, api.Net{In: samples.Line(2), Layers: []api.Layer{}}, layNet(api.Net{In: samples.Line(2)}).b)
	expectNoNet(t, []byte{}, api.ErrMagic, 0)
}

// 8.1: what may not be is what model.Check says of it.
func TestNetworksThatMayNotBe(t *testing.T) {
	unlike := samples.Network(samples.Line(2), samples.Dense(1))
	unlike.Layers[0].W = samples.Ones(3)
	none := samples.Network(samples.Line(2), samples.Relu(), samples.Turn(1))
	none.Layers[1].ZB[0] = complex(0, math.Inf(1))
	idle := samples.Network(samples.Line(2), samples.Relu())
	idle.Layers[0].B = samples.Ones(1)
	signed := samples.Network(samples.Line(2), samples.Relu())
	signed.Layers[0].A = oracle.MinusZero()
	for _, x := range []struct {
		n  api.Net
		e  api.Errno
		at int
	}{
		{api.Net{}, api.ErrShape, 0},
		{api.Net{In: samples.Line(257)}, api.ErrShape, 0},
		{api.Net{In: samples.Shape(math.MaxInt, 2, 1)}, api.ErrShape, 0},
		{samples.Network(samples.Line(1), slices.Repeat([]api.Layer{samples.Relu()}, 65)...), api.ErrSize, 0},
		{samples.Network(samples.Line(1), samples.Relu(), api.Layer{Kind: 13}), api.ErrKind, 2},
		{samples.Network(samples.Line(1), samples.Leaky(1.5)), api.ErrField, 1},
		{samples.Network(samples.Line(1), samples.Leaky(math.NaN())), api.ErrNumber, 1},
		{signed, api.ErrField, 1},
		{unlike, api.ErrCount, 1},
		{idle, api.ErrCount, 1},
		{none, api.ErrNumber, 2},
		{samples.Network(samples.Line(1), samples.Add(1)), api.ErrFrom, 1},
		{samples.Network(samples.Line(3), samples.Dense(2), samples.Add(0)), api.ErrFrom, 2},
		{samples.Network(samples.Line(256), api.Layer{Kind: api.KScale}, samples.Dense(255)), api.ErrSize, 2},
		{samples.Named(api.Net{In: samples.Line(2)}, "a"), api.ErrCount, 0},
		{samples.Named(api.Net{In: samples.Line(2)}, "a", "b", "c"), api.ErrCount, 0},
		{samples.Named(api.Net{In: samples.Line(2)}, "a", "a"), api.ErrName, 0},
		{samples.Named(api.Net{In: samples.Line(2)}, "a", "b c"), api.ErrName, 0},
		{samples.Named(api.Net{In: samples.Line(1)}, ""), api.ErrName, 0},
		{samples.Named(api.Net{In: samples.Line(1)}, "\xff"), api.ErrName, 0},
	} {
		expectNoNetBytes(t, x.n, x.e, x.at)
	}
}

// 8.2: longer than MaxFile, ahead of all else.
func TestLongNetworks(t *testing.T) {
	expectNoNet(t, noughts(api.MaxFile), api.ErrMagic, 0)
	expectNoNet(t, noughts(api.MaxFile+1), api.ErrLong, api.MaxFile)
	expectNoNet(t, noughts(2*api.MaxFile), api.ErrLong, api.MaxFile)
	good := layNet(samples.Chain()).b
	expectNoNet(t, append(good, noughts(api.MaxFile-len(good))...), api.ErrRest, len(good))
	expectNoNet(t, append(good, noughts(api.MaxFile+1-len(good))...), api.ErrLong, api.MaxFile)
}

// 8.2: the first bytes, and the version.
func TestHeadOfNetworks(t *testing.T) {
	for _, s := range []string{"", "A", "AM", "AMB", "AMBP\x01", "ambn\x01", " AMBN\x01", "AMBn\x01", "BMBN\x01", "AMB\x00N\x01", "ANBN\x01", "AMAN"} {
		expectNoNet(t, []byte(s), api.ErrMagic, 0)
	}
	for v := range 256 {
		if v != 1 {
			expectNoNet(t, []byte{'A', 'M', 'B', 'N', byte(v), 0, 0, 0}, api.ErrVersion, 4)
		}
	}
	expectNoNet(t, []byte("AMBN"), api.ErrVersion, 4)
	expectNoNet(t, []byte("AMBN\x01"), api.ErrShort, 5)
}

// A refused is bytes that are refused, and how.
type refused struct {
	b  []byte
	e  api.Errno
	at int
}

func joined(parts ...[]byte) []byte { return slices.Concat(parts...) }

// greatest is the greatest whole number that bytes can have.
func greatest() []byte { return wholeBytes(math.MaxInt) }

// wide is a whole number that is wider than any.
func wide() []byte { return []byte{255, 255, 255, 255, 255, 255, 255, 255, 255, 1} }

// 8.2: of a whole number wire's errors at its place; then the shape, at 5, and the number of layers, at its own.
func TestBeginningOfNetworks(t *testing.T) {
	for _, x := range []refused{
		{netBytes([]byte{0x80, 0}), api.ErrForm, 5},
		{netBytes(wide()), api.ErrWide, 5},
		{netBytes([]byte{0, 0x80, 0}), api.ErrForm, 6}, // the shape is looked at behind In.W
		{netBytes([]byte{0, 0, 0x81}), api.ErrShort, 7},
		{netBytes([]byte{0, 0}), api.ErrShort, 7},
		{netBytes([]byte{0, 1, 1}), api.ErrShape, 5},
		{netBytes([]byte{1, 0, 1}), api.ErrShape, 5},
		{netBytes([]byte{1, 1, 0, 0x80}), api.ErrShape, 5},
		{netBytes([]byte{1, 1, 0x80, 2}), api.ErrShort, 9},
		{netBytes([]byte{1, 1, 0x81, 2}), api.ErrShape, 5},
		{netBytes([]byte{16, 16, 2}), api.ErrShape, 5},
		{netBytes(greatest(), greatest(), greatest()), api.ErrShape, 5},
		{netBytes([]byte{1, 1, 1}), api.ErrShort, 8},
		{netBytes([]byte{1, 1, 1, 0x80, 0}), api.ErrForm, 8},
		{netBytes([]byte{1, 1, 1}, wide()), api.ErrWide, 8},
		{netBytes([]byte{1, 1, 1, 65}), api.ErrSize, 8},
		{netBytes([]byte{1, 1, 1}, greatest()), api.ErrSize, 8},
		{netBytes([]byte{1, 1, 0x80, 2, 65}), api.ErrSize, 9},
		{netBytes([]byte{1, 1, 1, 64}), api.ErrShort, 9},
	} {
		expectNoNet(t, x.b, x.e, x.at)
	}
}

// 8.2: a layer is refused at the place where its Kind begins, behind all its whole numbers and A, ahead of its lists.
func TestLayersOfNetworks(t *testing.T) {
	two := []byte{1, 1, 2, 2, 7} // two coordinates and two layers, a KRelu ahead: the next one begins at 10
	half, no := numberBytes(0.5), numberBytes(math.NaN())
	for _, x := range []refused{
		{netBytes(two), api.ErrShort, 10},
		{netBytes(two, []byte{0x80}), api.ErrShort, 10},
		{netBytes(two, []byte{0x87, 0}), api.ErrForm, 10},
		{netBytes(two, []byte{0}), api.ErrKind, 10},
		{netBytes(two, []byte{13}), api.ErrKind, 10},
		{netBytes(two, greatest()), api.ErrKind, 10},
		{netBytes(two, []byte{13, 0x80}), api.ErrKind, 10}, // no further number is read
		{netBytes(two, []byte{1}), api.ErrShort, 11},
		{netBytes(two, []byte{1, 0}), api.ErrField, 10},
		{netBytes(two, []byte{1, 0x81, 2}), api.ErrField, 10},
		{netBytes(two, []byte{1}, greatest()), api.ErrField, 10},
		{netBytes(two, []byte{1, 0x80, 0}), api.ErrForm, 11},
		{netBytes(two, []byte{1, 1}), api.ErrShort, 12},
		{netBytes(two, []byte{1, 1}, no), api.ErrFloat, 12},
		{netBytes(two, []byte{1, 1}, half, no), api.ErrFloat, 20},
		{netBytes(two, []byte{1, 1}, half, half, no), api.ErrFloat, 28},
		{netBytes(two, []byte{1, 1}, half, half, half[:7]), api.ErrShort, 28},
		{netBytes(two, []byte{1, 1}, half, no[:7], half), api.ErrShort, 28},
		{netBytes(two, []byte{2, 0, 9, 9, 9, 9, 9, 0x80}), api.ErrShort, 17}, // fields are looked at behind the last of them
		{netBytes(two, []byte{2, 0, 9, 9, 9, 9, 9, 0}), api.ErrField, 10},
		{netBytes(two, []byte{2, 1, 1, 3, 1, 1, 0, 0}), api.ErrShape, 10},
		{netBytes(two, []byte{2, 0x81, 1, 1, 1, 1, 1, 0, 0}), api.ErrShape, 10}, // 129 filters tell 258 coordinates
		{netBytes(two, []byte{4, 17, 1, 1, 1, 0, 0}), api.ErrShort, 17},
		{netBytes(two, []byte{4, 17, 1, 1, 1, 0, 0}, no), api.ErrFloat, 17},
		{netBytes(two, []byte{4, 17, 1, 1, 1, 0, 0}, half), api.ErrField, 10},
		{netBytes(two, []byte{4, 1, 1, 1, 1, 1, 0}, half), api.ErrField, 10},
		{netBytes(two, []byte{4, 2, 1, 1, 1, 0, 0}, half), api.ErrShape, 10},
		{netBytes(two, []byte{12, 2, 1, 1, 1, 0, 0}), api.ErrShape, 10},
		{netBytes(two, []byte{12, 1, 1, 17, 1, 0, 0}), api.ErrField, 10},
		{netBytes(two, []byte{5, 65}), api.ErrField, 10},
		{netBytes(two, []byte{5}, greatest()), api.ErrField, 10},
		{netBytes(two, []byte{5, 64}), api.ErrFrom, 10},
		{netBytes(two, []byte{5, 2}), api.ErrFrom, 10},
		{netBytes(two, []byte{5, 1}), api.ErrShort, 12},
		{netBytes(two, []byte{6, 0x81, 1}), api.ErrField, 10},
		{netBytes([]byte{1, 1, 3, 1, 6, 1}), api.ErrShape, 9},
		{netBytes(two, []byte{6, 1}, half, no), api.ErrFloat, 20},
		{netBytes(two, []byte{6, 1}, half, half, half, no), api.ErrFloat, 36},
		{netBytes(two, []byte{6, 1}, half, half, half, half[:3]), api.ErrShort, 36},
		{netBytes(two, []byte{8}, numberBytes(1.5)), api.ErrField, 10},
		{netBytes(two, []byte{8}, numberBytes(-oracle.Least)), api.ErrField, 10},
		{netBytes(two, []byte{8}, no), api.ErrFloat, 11},
		{netBytes(two, []byte{8}, half[:7]), api.ErrShort, 11},
		{netBytes(two, []byte{3}), api.ErrShort, 11},
		{netBytes(two, []byte{3}, half, numberBytes(math.Inf(-1))), api.ErrFloat, 19},
	} {
		expectNoNet(t, x.b, x.e, x.at)
	}
}

// 8.2: KAdd takes an output ahead of it, of the shape ahead of it.
func TestSumsOfNetworks(t *testing.T) {
	one, relus := numberBytes(1), []byte{7, 7}
	narrow := joined([]byte{1, 1, 2, 4}, relus, []byte{1, 1}, one, one, one) // outputs 0 to 2 of two coordinates, 3 of one
	at := len(netBytes(narrow))
	for from := range 3 {
		expectNoNet(t, netBytes(narrow, []byte{5, byte(from)}), api.ErrFrom, at)
	}
	expectNoNet(t, netBytes(narrow, []byte{5, 4}), api.ErrFrom, at)
	expectNetBytes(t, samples.Network(samples.Line(2), samples.Relu(), samples.Relu(), samples.Dense(1), samples.Add(3)), layNet(samples.Network(samples.Line(2), samples.Relu(), samples.Relu(), samples.Dense(1), samples.Add(3))).b)
	// As many coordinates, but not as they lie.
	expectNoNet(t, netBytes([]byte{1, 1, 2, 2, 1, 2}, one, one, one, one, one, one, []byte{5, 0}), api.ErrFrom, 59)
	for from := range 5 {
		n := samples.Network(samples.Line(2), samples.Relu(), samples.Relu(), samples.Relu(), samples.Relu(), samples.Add(from))
		expectNetBytes(t, n, layNet(n).b)
	}
}

// heavy is a network of 65,536 numbers, complex ones counted twice; with a further KScale it has two more.
func heavy(scales int) api.Net {
	layers := slices.Repeat([]api.Layer{{Kind: api.KScale}}, scales)
	return samples.Network(samples.Line(256), append(layers, samples.Turn(127), samples.Turn(128))...)
}

// 8.2: more than MaxWeights numbers, with the lists of a layer that are not looked at yet.
func TestWeightsOfNetworks(t *testing.T) {
	full := samples.Network(samples.Line(255), samples.Dense(256))
	for _, n := range []api.Net{full, heavy(0), heavy(1)} {
		expectNetBytes(t, n, layNet(n).b)
	}
	if model.Weights(full) != api.MaxWeights || model.Weights(heavy(1)) != api.MaxWeights {
		t.Fatal("not at the limit")
	}
	past := layNet(heavy(2))
	second := past.begins[6+2*3+2+2*127*129] // behind the head, two KScale of three things each, and the first KTurn
	expectNoNet(t, past.b, api.ErrSize, second)
	expectNoNet(t, past.b[:second+3], api.ErrSize, second)
	expectNoNet(t, past.b[:second+2], api.ErrShort, second+1)
	expectNoNetBytes(t, heavy(2), api.ErrSize, 4)
	one := layNet(samples.Network(samples.Line(256), api.Layer{Kind: api.KScale}, samples.Dense(255))).b // 65,537
	expectNoNet(t, one, api.ErrSize, 27)
	expectNoNet(t, netBytes(wholeBytes(256), []byte{1, 1, 1, 2, 1, 16, 16, 1, 1, 15, 15}), api.ErrSize, 10)  // 65,537
	expectNoNet(t, netBytes(wholeBytes(256), []byte{1, 1, 1, 2, 2, 16, 16, 1, 1, 15, 15}), api.ErrShape, 10) // the shape goes ahead
	expectNoNet(t, netBytes(wholeBytes(256), []byte{1, 1, 1, 2}, wholeBytes(256), []byte{16, 16, 16, 16, 15, 15}), api.ErrSize, 10)
	expectNoNet(t, netBytes(wholeBytes(256), []byte{1, 1, 1, 1}, wholeBytes(256)), api.ErrSize, 10)
}

// 8.2: none, or as many names as the last output has coordinates.
func TestNumberOfNames(t *testing.T) {
	for _, x := range []refused{
		{netBytes([]byte{1, 1, 2, 0}), api.ErrShort, 9},
		{netBytes([]byte{1, 1, 2, 0, 0x80, 0}), api.ErrForm, 9},
		{netBytes([]byte{1, 1, 2, 0, 1}), api.ErrCount, 9},
		{netBytes([]byte{1, 1, 2, 0, 3}), api.ErrCount, 9},
		{netBytes([]byte{1, 1, 2, 0}, greatest()), api.ErrCount, 9},
		{netBytes([]byte{1, 1, 2, 0, 2}), api.ErrShort, 10},
		{netBytes([]byte{1, 2, 2, 1, 12, 2, 2, 1, 1, 0, 0, 4}), api.ErrCount, 16}, // the last output has one
		{netBytes([]byte{1, 2, 2, 1, 12, 2, 2, 1, 1, 0, 0, 1}), api.ErrShort, 17},
	} {
		expectNoNet(t, x.b, x.e, x.at)
	}
	var all []string
	for i := range 256 {
		all = append(all, fmt.Sprint("n", i))
	}
	expectNetBytes(t, samples.Named(api.Net{In: samples.Shape(4, 8, 8)}, all...), layNet(samples.Named(api.Net{In: samples.Shape(4, 8, 8)}, all...)).b)
	all[255] = all[0]
	twice := layNet(samples.Named(api.Net{In: samples.Shape(4, 8, 8)}, all...))
	expectNoNet(t, twice.b, api.ErrName, twice.begins[len(twice.begins)-2])
}

// withNames are the bytes of a network of so many names, the first of which begins at 10.
func withNames(names ...string) []byte {
	b := netBytes([]byte{1, 1, byte(len(names)), 0, byte(len(names))})
	for _, s := range names {
		b = append(b, textBytes(s)...)
	}
	return b
}

// 8.2: a name is refused where its Text begins.
func TestNamesOfNetworks(t *testing.T) {
	long := strings.Repeat("𝄞", 32)
	for _, s := range []string{"a", "!", "~", "\u00a1", "\U0010ffff", "a\"b", long, strings.Repeat("a", 32), strings.Repeat("é", 32)} {
		n := samples.Named(api.Net{In: samples.Line(2)}, "x", s)
		expectNetBytes(t, n, layNet(n).b)
		expectNetBytes(t, n, sealed(withNames("x", s)...))
	}
	for _, s := range []string{"", " ", "a b", "#", "a#", "\x00", "\x20", "\x7f", "\u0080", "\u00a0", strings.Repeat("a", 33), strings.Repeat("a", 128), strings.Repeat("é", 33)} {
		expectNoNet(t, sealed(withNames(s)...), api.ErrName, 10)
		expectNoNet(t, withNames("x", s, "\xff"), api.ErrName, 12) // ahead of what is behind it
	}
	for _, x := range []refused{
		{withNames(long + "!"), api.ErrBig, 10},
		{withNames("x", strings.Repeat("a", 129)), api.ErrBig, 12},
		{netBytes([]byte{1, 1, 1, 0, 1}, greatest()), api.ErrBig, 10},
		{netBytes([]byte{1, 1, 1, 0, 1}, wide()), api.ErrWide, 10},
		{netBytes([]byte{1, 1, 1, 0, 1, 0x81, 0}), api.ErrForm, 10},
		{netBytes([]byte{1, 1, 1, 0, 1, 2, 'a'}), api.ErrShort, 10},
		{withNames("\xff"), api.ErrUTF, 10},
		{withNames("x", "\xed\xa0\x80"), api.ErrUTF, 12},
		{withNames("x", "x"), api.ErrName, 12},
		{withNames("x", "y", "x"), api.ErrName, 14},
		{withNames("y", "x", "x", " "), api.ErrName, 14},
		{withNames("x", "X", "é", "e\u0301"), api.ErrShort, 21},
	} {
		expectNoNet(t, x.b, x.e, x.at)
	}
}

// 8.2: the sum, and what is behind it.
func TestEndOfNetworks(t *testing.T) {
	for _, n := range samples.Nets() {
		b := layNet(n).b
		end := len(b) - 4
		for left := range 4 {
			expectNoNet(t, b[:end+left], api.ErrShort, end)
		}
		for i := range 32 {
			turned := slices.Clone(b)
			turned[end+i/8] ^= 1 << (i % 8)
			expectNoNet(t, turned, api.ErrSum, end)
			expectNoNet(t, append(turned, 0), api.ErrSum, end) // ahead of what is behind it
		}
		for more := 1; more < 9; more++ {
			expectNoNet(t, append(slices.Clone(b), noughts(more)...), api.ErrRest, len(b))
			expectNoNet(t, append(slices.Clone(b), b[:more]...), api.ErrRest, len(b))
		}
		swapped := slices.Clone(b)
		slices.Reverse(swapped[end:])
		expectNoNet(t, swapped, api.ErrSum, end)
	}
}

// 8.2: up to 64 layers.
func TestManyLayers(t *testing.T) {
	for _, k := range []int{1, 2, 63, 64} {
		n := samples.Network(samples.Line(2), slices.Repeat([]api.Layer{samples.Relu()}, k)...)
		expectNetBytes(t, n, layNet(n).b)
	}
	past := samples.Network(samples.Line(2), slices.Repeat([]api.Layer{samples.Relu()}, 65)...)
	expectNoNet(t, layNet(past).b, api.ErrSize, 8)
	n := samples.Network(samples.Line(2), slices.Repeat([]api.Layer{samples.Add(0)}, 64)...)
	n.Layers[63].From = 63
	expectNetBytes(t, n, layNet(n).b)
	n.Layers[63].From = 64
	o := layNet(n)
	expectNoNet(t, o.b, api.ErrFrom, len(o.b)-7)
}
