package point

import (
	"math"
	"slices"
	"testing"

	"ambit/api"
	"ambit/oracle"
	"ambit/samples"
)

// asked is a question with nothing but its region.
func asked(c []float64, g ...[]float64) api.Prop { return api.Prop{C: c, G: g} }

// 14.5: a depth of 0 and of 62, e at both ends and between.
func TestInputAtTheEnds(t *testing.T) {
	p := asked(numbers(1, 2), numbers(1, -1), numbers(0, 0.5))
	expectInput(t, p, []int{0, 0}, 0, wholes(1, 2), api.OK)
	expectInput(t, p, []int{1, -1}, 0, exacts(2, 0.5), api.OK)
	expectInput(t, p, []int{-1, 1}, 0, exacts(0, 3.5), api.OK)
	expectInput(t, p, []int{1 << 62, -1 << 62}, 62, exacts(2, 0.5), api.OK)
	expectInput(t, p, []int{-1 << 62, 1 << 62}, 62, exacts(0, 3.5), api.OK)
	expectInput(t, p, []int{1 << 61, 0}, 62, exacts(1.5, 1.5), api.OK)
	expectInput(t, asked(numbers(0), numbers(oracle.Least)), []int{1}, 62, dyads(dyad(1, -1136)), api.OK)
	expectInput(t, asked(numbers(0), numbers(-oracle.Max)), []int{1<<62 - 1}, 62, dyads(formed(times(oracle.Exact(-oracle.Max), oracle.Value(raised(ones(62), -62))))), api.OK)
	expectInput(t, asked(numbers(oracle.Max), numbers(oracle.Max), numbers(oracle.Least)), []int{1 << 5, -1}, 5, wantInput(asked(numbers(oracle.Max), numbers(oracle.Max), numbers(oracle.Least)), []int{32, -1}, 5), api.OK)
	expectInput(t, asked(numbers(oracle.MinusZero(), 0), numbers(0, oracle.MinusZero())), []int{-1}, 0, dyads(api.Dyad{}, api.Dyad{}), api.OK)
	expectInput(t, asked(numbers(1, -1), numbers(-1, 1)), []int{4}, 2, dyads(api.Dyad{}, api.Dyad{}), api.OK)
}

// 14.5: no columns, no coordinates; nil and empty lists mean the same.
func TestInputOfNothing(t *testing.T) {
	expectInput(t, api.Prop{}, nil, 0, nil, api.OK)
	expectInput(t, api.Prop{C: numbers(), G: [][]float64{}}, []int{}, 62, nil, api.OK)
	expectInput(t, asked(nil, nil, numbers()), []int{1, -1}, 0, nil, api.OK)
	expectInput(t, asked(numbers(0.5)), nil, 3, exacts(0.5), api.OK)
	expectInput(t, asked(numbers(0.5)), []int{}, 3, exacts(0.5), api.OK)
}

// 14.5: nothing else of the question is looked at, and no limit is set to how long its lists are.
func TestInputLooksAtTheRegionAlone(t *testing.T) {
	p := asked(numbers(1), numbers(2))
	p.Target, p.K, p.Depth, p.Looks = -9, 99, -1, math.MaxInt
	p.Claims = [][]float64{nil, {math.NaN()}}
	expectInput(t, p, []int{1}, 1, wholes(2), api.OK)
	wide := api.Prop{C: samples.Ones(300), G: samples.Columns(300, 300)}
	expectInput(t, wide, slices.Repeat([]int{1}, 300), 0, slices.Repeat(wholes(301), 300), api.OK)
}

// 14.5: what is refused, and the order.
func TestInputRefuses(t *testing.T) {
	p := asked(numbers(1, 2), numbers(1, -1), numbers(0, 0.5))
	for _, e := range [][]int{nil, {}, {0}, {0, 0, 0}, {0, 0, 0, 9}} {
		for _, depth := range []int{0, 62, -1, 63} {
			expectInput(t, p, e, depth, nil, api.ErrCount)
		}
	}
	for _, g := range [][]float64{nil, {}, {1}, {1, 2, 3}, {math.NaN()}} {
		for _, depth := range []int{0, -1} {
			expectInput(t, asked(p.C, g), []int{0}, depth, nil, api.ErrCount)
			expectInput(t, asked(p.C, p.G[0], g), []int{0, 9}, depth, nil, api.ErrCount)
			expectInput(t, asked(numbers(1, math.Inf(1)), g, p.G[0]), []int{0, 0}, depth, nil, api.ErrCount)
		}
	}
	for _, a := range oracle.NoNumbers() {
		for _, q := range []api.Prop{
			asked(numbers(a, 2), p.G...), asked(numbers(1, a), p.G...),
			asked(p.C, numbers(a, 0), p.G[1]), asked(p.C, p.G[0], numbers(0, a)),
		} {
			expectInput(t, q, []int{0, 0}, 0, nil, api.ErrNumber)
			expectInput(t, q, []int{0, 9}, 0, nil, api.ErrNumber)
			expectInput(t, q, []int{0, 0}, 63, nil, api.ErrNumber)
			expectInput(t, q, []int{0}, 63, nil, api.ErrCount)
		}
	}
	for _, depth := range []int{-1, -2, 63, 64, 65, 126, 1 << 32, math.MaxInt, math.MinInt} {
		expectInput(t, p, []int{0, 0}, depth, nil, api.ErrArg)
		expectInput(t, asked(p.C), nil, depth, nil, api.ErrArg)
		expectInput(t, api.Prop{}, nil, depth, nil, api.ErrArg)
	}
	for _, depth := range []int{0, 1, 5, 31, 32, 61, 62} {
		for _, part := range []int{1<<depth + 1, -1<<depth - 1, math.MaxInt, math.MinInt} {
			expectInput(t, p, []int{part, 0}, depth, nil, api.ErrArg)
			expectInput(t, p, []int{0, part}, depth, nil, api.ErrArg)
			expectInput(t, asked(nil, nil), []int{part}, depth, nil, api.ErrArg)
		}
	}
}

// 14.6: no layers: the network tells its input.
func TestEvalOfNoLayers(t *testing.T) {
	x := dyads(api.Dyad{}, raised(ones(65536), -65536), dyad(-1, 65536))
	expectEval(t, netOf(samples.Line(3)), x, x)
	expectEval(t, samples.Named(netOf(samples.Line(3)), "a", "b", "c"), x, x)
	expectEval(t, api.Net{In: samples.Line(1), Layers: []api.Layer{}, Names: []string{}}, dyads(api.Dyad{M: []byte{}}), dyads(api.Dyad{}))
}

// 14.6: a layer of each kind, reckoned by hand.
func TestEvalOfEachKind(t *testing.T) {
	for _, c := range []struct {
		l    api.Layer
		in   api.Shape
		x, y []api.Dyad
	}{
		{api.Layer{Kind: api.KDense, Out: 2, W: numbers(1, 2, 3, 4), B: numbers(5, 6)}, samples.Line(2), wholes(7, 8), wholes(28, 59)},
		{api.Layer{Kind: api.KConv, Out: 1, KH: 2, KW: 2, SH: 1, SW: 1, PH: 1, PW: 1, W: numbers(1, 2, 3, 4), B: numbers(9)}, samples.Line(2), wholes(5, 7), wholes(29, 52, 30, 19, 28, 16)},
		{api.Layer{Kind: api.KScale, W: numbers(2, 3), B: numbers(0, 1)}, samples.Shape(2, 1, 2), wholes(1, 2, 3, 4), wholes(2, 4, 10, 13)},
		{api.Layer{Kind: api.KMean, KH: 2, KW: 1, SH: 2, SW: 1, PH: 1, A: 3}, samples.Shape(1, 3, 1), wholes(1, 2, 4), wholes(3, 18)},
		{samples.Add(0), samples.Line(2), wholes(3, -4), wholes(6, -8)},
		{api.Layer{Kind: api.KTurn, Out: 1, Z: []complex128{1 + 2i}, ZB: []complex128{3 + 4i}}, samples.Line(2), wholes(5, 6), wholes(-4, 20)},
		{samples.Relu(), samples.Line(4), exacts(-2, 0, oracle.Least, 3), exacts(0, 0, oracle.Least, 3)},
		{samples.Leaky(0.25), samples.Line(3), exacts(-2, 0, 3), exacts(-0.5, 0, 3)},
		{samples.Leaky(oracle.MinusZero()), samples.Line(3), exacts(-2, 0, 3), exacts(0, 0, 3)},
		{samples.Leaky(1), samples.Line(2), exacts(-2, 3), exacts(-2, 3)},
		{kind(api.KSquare), samples.Line(3), exacts(-1.5, 0, 2), exacts(2.25, 0, 4)},
		{samples.Windowed(api.KMax, 1, 2, 1, 1, 0, 1), samples.Shape(2, 1, 2), wholes(-5, -7, 1, 2), wholes(-5, -5, -7, 1, 2, 2)},
	} {
		expectEval(t, netOf(c.in, c.l), c.x, c.y)
	}
}

// 14.6: a KAdd reads any output ahead: the input, one between, and the one ahead twice.
func TestEvalOfSums(t *testing.T) {
	twice := api.Layer{Kind: api.KScale, W: numbers(2), B: numbers(1)}
	for from, want := range [][]api.Dyad{wholes(18, -17), wholes(22, -20), wholes(30, -26)} {
		expectEval(t, netOf(samples.Line(2), twice, twice, samples.Add(from)), wholes(3, -4), want)
	}
	expectEval(t, netOf(samples.Line(1), samples.Add(0), samples.Add(1), samples.Add(0), samples.Relu(), samples.Add(2)), wholes(3), wholes(27))
}

// far is so great that its sum with what is far below 1 is too long.
func far() api.Dyad { return dyad(1, 65530) }

// 14.6: what is added up within one coordinate may be longer on the way than what it tells.
func TestEvalIsLongerOnTheWay(t *testing.T) {
	low := dyad(3, -65500)
	four := dyads(far(), low, turned(far()), low)
	expectEval(t, netOf(samples.Line(4), dense(0, 1, 1, 1, 0)), four, dyads(low))
	expectEval(t, netOf(samples.Line(4), dense(0, 0x1p900, -1, 0x1p900, 1)), four, dyads(api.Dyad{}))
	expectEval(t, netOf(samples.Line(4), api.Layer{Kind: api.KConv, Out: 1, KH: 1, KW: 4, SH: 1, SW: 1, W: numbers(64, 1, 64, 1), B: numbers(0)}), four, dyads(raised(low, -65499)))
	expectEval(t, netOf(samples.Line(4), api.Layer{Kind: api.KMean, KH: 1, KW: 4, SH: 1, SW: 1, A: 0.5}), four, dyads(low))
	expectEval(t, netOf(samples.Line(4), api.Layer{Kind: api.KTurn, Out: 1, Z: []complex128{1, 1}, ZB: []complex128{0}}), four, dyads(api.Dyad{}, raised(low, -65499)))
	expectEval(t, netOf(samples.Line(2), dense(-1, 0x1p1000, 1)), dyads(dyad(1, -1000), dyad(1, -65536)), dyads(dyad(1, -65536)))
}

// longLayers tell, of the numbers beside them, a coordinate that is too long: of each kind that can.
func longLayers() []struct {
	l api.Layer
	x []api.Dyad
} {
	type row = struct {
		l api.Layer
		x []api.Dyad
	}
	high, low := dyad(-1, 65536), dyad(-1, -65536)
	return []row{
		{dense(0, 2), dyads(high)}, {dense(0, 0.5), dyads(low)}, {dense(-1, 1), dyads(high)}, {dense(-1, 1), dyads(low)}, {dense(0, 3), dyads(ones(65536))},
		{dense(0, 1, 1), dyads(high, low)}, {dense(0, 1, 1), dyads(high, high)}, {dense(0, oracle.Max), dyads(high)}, {dense(0, oracle.Least), dyads(low)},
		{api.Layer{Kind: api.KDense, Out: 3, W: numbers(1, 0, 2), B: numbers(0, 0, 0)}, dyads(high)},
		{api.Layer{Kind: api.KConv, Out: 1, KH: 1, KW: 1, SH: 1, SW: 1, W: numbers(4), B: numbers(0)}, dyads(dyad(1, 0), high)},
		{api.Layer{Kind: api.KScale, W: numbers(0.5), B: numbers(0)}, dyads(dyad(1, 0), dyad(1, 0), low)},
		{api.Layer{Kind: api.KMean, KH: 1, KW: 1, SH: 1, SW: 1, A: 0.5}, dyads(low)},
		{api.Layer{Kind: api.KMean, KH: 1, KW: 2, SH: 1, SW: 1, A: 1}, dyads(high, dyad(-1, 0))},
		{samples.Add(0), dyads(high)}, {samples.Add(0), dyads(dyad(1, 0), high)},
		{api.Layer{Kind: api.KTurn, Out: 1, Z: []complex128{2i}, ZB: []complex128{0}}, dyads(high, dyad(1, 0))},
		{samples.Leaky(0.5), dyads(low)}, {samples.Leaky(oracle.Least), dyads(dyad(-1, -64463))},
		{kind(api.KSquare), dyads(dyad(1, 32769))}, {kind(api.KSquare), dyads(dyad(1, -32769))}, {kind(api.KSquare), dyads(ones(32769))},
	}
}

// 14.6: ErrBits at the first layer that tells what is not small enough, whatever comes behind it.
func TestEvalIsTooLong(t *testing.T) {
	for _, c := range longLayers() {
		in := samples.Line(len(c.x))
		expectNoEval(t, netOf(in, c.l), c.x, api.ErrBits, 1)
		pass := samples.Leaky(1)
		shift := c.l
		if shift.Kind == api.KAdd {
			shift.From = 3
		}
		expectNoEval(t, netOf(in, pass, pass, pass, shift), c.x, api.ErrBits, 4)
		expectNoEval(t, netOf(in, c.l, samples.Relu(), kind(api.KSquare)), c.x, api.ErrBits, 1)
	}
}

// 14.6: of each kind what is just small enough.
func TestEvalIsJustSmallEnough(t *testing.T) {
	high, low := dyad(-1, 65536), dyad(-1, -65536)
	all := dyads(high, low, dyad(1, 65536), dyad(1, -65536), raised(ones(65536), 65536), raised(ends(65536), -65536))
	in := samples.Line(len(all))
	pass := api.Layer{Kind: api.KScale, W: numbers(1), B: numbers(0)}
	expectEval(t, netOf(in, pass, samples.Leaky(1), api.Layer{Kind: api.KMean, KH: 1, KW: 1, SH: 1, SW: 1, A: 1}), all, all)
	expectEval(t, netOf(in, samples.Relu()), all, append(dyads(api.Dyad{}, api.Dyad{}), all[2:]...))
	expectEval(t, netOf(in, samples.Windowed(api.KMax, 1, 6, 1, 1, 0, 0)), all, dyads(all[4]))
	expectEval(t, netOf(samples.Line(2), api.Layer{Kind: api.KTurn, Out: 1, Z: []complex128{1i}, ZB: []complex128{0}}), dyads(low, high), dyads(turned(high), low))
	expectEval(t, netOf(samples.Line(1), dense(0, 2)), dyads(dyad(1, 65535)), dyads(dyad(1, 65536)))
	expectEval(t, netOf(samples.Line(1), dense(0, 0.5)), dyads(dyad(1, -65535)), dyads(dyad(1, -65536)))
	expectEval(t, netOf(samples.Line(1), dense(1, 1)), dyads(dyad(1, 65535)), dyads(ends(65536)))
	expectEval(t, netOf(samples.Line(1), dense(1, 1)), dyads(ones(65536)), dyads(dyad(1, 65536)))
	expectEval(t, netOf(samples.Line(1), samples.Leaky(oracle.Least)), dyads(dyad(-1, -64462)), dyads(low))
	expectEval(t, netOf(samples.Line(1), samples.Add(0)), dyads(dyad(1, 65535)), dyads(dyad(1, 65536)))
	expectEval(t, netOf(samples.Line(2), kind(api.KSquare)), dyads(dyad(-1, 32768), dyad(-1, -32768)), dyads(dyad(1, 65536), dyad(1, -65536)))
}

// 14.6: squares of squares: the layer at which they become too long.
func TestEvalOfManySquares(t *testing.T) {
	squares := func(n int) api.Net {
		return netOf(samples.Line(1), slices.Repeat([]api.Layer{kind(api.KSquare)}, n)...)
	}
	expectEval(t, squares(16), dyads(dyad(1, 1)), dyads(dyad(1, 65536)))
	expectNoEval(t, squares(17), dyads(dyad(1, 1)), api.ErrBits, 17)
	expectEval(t, squares(16), dyads(dyad(-1, -1)), dyads(dyad(1, -65536)))
	expectNoEval(t, squares(64), dyads(dyad(-1, -1)), api.ErrBits, 17)
	expectNoEval(t, squares(64), dyads(dyad(3, 0)), api.ErrBits, 16)
	expectEval(t, squares(64), dyads(dyad(-1, 0)), dyads(dyad(1, 0)))
}

// 14.6: what has become 0 is 0, however small the parts were that it was added up of: squared again and again it stays so, and a sum with it too.
func TestEvalOfNoughtsGoesOn(t *testing.T) {
	layers := append([]api.Layer{{Kind: api.KScale, W: numbers(1), B: numbers(-1)}}, slices.Repeat([]api.Layer{kind(api.KSquare)}, 60)...)
	expectEval(t, netOf(samples.Line(1), append(layers, samples.Add(0))...), wholes(1), wholes(1))
}

// 14.6: a network as wide, heavy and deep as may be: each of its rows is the sum of all, and each KAdd doubles it.
func TestEvalOfTheWidest(t *testing.T) {
	heavy := api.Layer{Kind: api.KDense, Out: 255, W: samples.Ones(255 * 256), B: make([]float64, 255)}
	n := netOf(samples.Line(256), heavy)
	for m := range 63 {
		n.Layers = append(n.Layers, samples.Add(m+1))
	}
	x := make([]api.Dyad, 256)
	x[0], x[100], x[255] = ends(60000), dyad(-1, 0), dyad(1, 7)
	sum := plus(oracle.Value(x[0]), plus(oracle.Value(x[100]), oracle.Value(x[255])))
	expectEval(t, n, x, slices.Repeat([]api.Dyad{formed(times(sum, oracle.Power(63)))}, 255))
	n.Layers = append(n.Layers, samples.Relu())
	expectNoEval(t, n, x, api.ErrSize, 0)
}
