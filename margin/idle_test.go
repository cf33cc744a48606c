package margin

import (
	"math"
	"math/big"
	"slices"
	"testing"

	"ambit/api"
	"ambit/model"
	"ambit/oracle"
	"ambit/point"
	"ambit/samples"
)

func whole(n int64) *big.Rat { return big.NewRat(n, 1) }

// lost is what a layer may lose of a coordinate that goes as far as that, with so many columns ahead.
func lost(far *big.Rat, columns int64) *big.Rat {
	return plus(times(far, oracle.Power(-51)), times(whole(columns+2), oracle.Power(-1073)))
}

// end is what the margin's own rounding takes.
func end() *big.Rat { return oracle.Power(-1074) }

// 17.9: the network and the question of the chapter's examples.
func TestIdleOfTheExample(t *testing.T) {
	c := example()
	d := lost(oracle.Exact(1.75), 1)
	expectIdle(t, c.n, c.p, plus(plus(d, d), end()))
}

// 17.9: without layers nothing is off but the margin's own rounding.
func TestIdleOfNoLayers(t *testing.T) {
	for _, c := range numbers(0, oracle.MinusZero(), 1, -0x1p999, least) {
		expectIdle(t, netOf(1), asked(lists(numbers(1, 0)), numbers(c)), end())
		expectIdle(t, netOf(1), asked(lists(numbers(-1, 7), numbers(0, 0)), numbers(c), numbers(5)), end())
	}
	p := asked(nil, numbers(1, 2, 3))
	p.Target = 1
	expectIdle(t, netOf(3), p, end())
	// There is no layer behind which something might be trimmed.
	p.K, p.G = 1, samples.Columns(256, 3)
	expectIdle(t, netOf(3), p, end())
}

// 17.9: layer by layer, reckoned by hand; neither the signs nor the constant of a claim turn anything.
func TestIdleOfTwoLayers(t *testing.T) {
	n := netOf(1, scale(-2, 1), scale(3, -5))
	one := plus(whole(9), lost(whole(9), 1))
	far := plus(times(whole(3), one), whole(5))
	off := plus(times(whole(3), lost(whole(9), 1)), lost(far, 2))
	for _, claim := range lists(numbers(1, 0), numbers(-1, 1000), numbers(1, -0x1p999)) {
		expectIdle(t, n, asked(lists(claim), numbers(-3), numbers(-1)), plus(off, end()))
	}
	expectIdle(t, n, asked(lists(numbers(-0.5, 0)), numbers(3), numbers(1)), plus(times(oracle.Exact(0.5), off), end()))
	expectIdle(t, n, asked(lists(numbers(0, 1)), numbers(3), numbers(1)), end())
	// More columns that go as far together: more of them may be rounded.
	off = plus(times(whole(3), lost(whole(9), 3)), lost(plus(times(whole(3), plus(whole(9), lost(whole(9), 3))), whole(5)), 4))
	expectIdle(t, n, asked(lists(numbers(1, 0)), numbers(2), numbers(0), numbers(-1.5), numbers(0.5)), plus(off, end()))
}

// 17.9: KAdd reads the output ahead and the output From, which may be the same one, or the input.
func TestIdleOfSums(t *testing.T) {
	// Of the input 4, of the first layer 9.
	p := asked(lists(numbers(-3, 7)), numbers(3), numbers(1))
	one := lost(whole(9), 1)
	nine := plus(whole(9), one)
	far := plus(nine, whole(4))
	expectIdle(t, netOf(1, scale(2, 1), samples.Add(0)), p, plus(times(whole(3), plus(one, lost(far, 2))), end()))
	expectIdle(t, netOf(1, scale(2, 1), samples.Add(1)), p, plus(times(whole(3), plus(plus(one, one), lost(plus(nine, nine), 2))), end()))
	// 8 of a sum of the input with itself.
	eight := lost(whole(8), 1)
	expectIdle(t, netOf(1, samples.Add(0)), p, plus(times(whole(3), eight), end()))
	// A later layer reads the first one again.
	two := plus(one, lost(far, 2))
	last := lost(plus(plus(far, lost(far, 2)), nine), 3)
	expectIdle(t, netOf(1, scale(2, 1), samples.Add(0), samples.Add(1)), p, plus(times(whole(3), plus(plus(two, one), last)), end()))
}

// 17.9: windows, with what lies outside and what is left out, and complex rows, each number without its sign.
func TestIdleOfOtherKinds(t *testing.T) {
	claims := lists(numbers(1, 0, 0), numbers(0, 1, 0))
	// The first window has the first coordinate alone, the second one both others.
	p := asked(claims, numbers(1, -2, 4))
	expectIdle(t, netOf(3, mean(-0.5, 2, 2, 1)), p, plus(lost(whole(3), 0), end()))
	conv := api.Layer{Kind: api.KConv, Out: 1, KH: 1, KW: 2, SH: 1, SW: 2, PW: 1, W: numbers(-10, 3), B: numbers(-7)}
	expectIdle(t, netOf(3, conv), p, plus(lost(whole(20+12+7), 0), end()))
	turn := api.Layer{Kind: api.KTurn, Out: 1, Z: []complex128{-3 + 5i}, ZB: []complex128{1 - 100i}}
	p = asked(claims, numbers(2, -7))
	// 3 * 2 + 5 * 7 + 1, and 5 * 2 + 3 * 7 + 100.
	expectIdle(t, netOf(2, turn), p, plus(lost(whole(131), 0), end()))
	p.Claims = claims[:1]
	expectIdle(t, netOf(2, turn), p, plus(lost(whole(42), 0), end()))
}

// 17.9: of several claims the greatest tells, wherever it stands, the target's among them.
func TestIdleOfTheGreatestClaim(t *testing.T) {
	n := netOf(2, dense(numbers(1, 0, 0, 4), numbers(0, 0)))
	one, four := lost(whole(1), 0), lost(whole(4), 0)
	small, great := numbers(2, 0, 0x1p999), numbers(0, -1, 0)
	p := asked(lists(small, great), numbers(1, 1))
	expectIdle(t, n, p, plus(four, end()))
	p.Claims = lists(great, small)
	expectIdle(t, n, p, plus(four, end()))
	p.Claims = lists(small)
	expectIdle(t, n, p, plus(plus(one, one), end()))
	p.Target = 0
	expectIdle(t, n, p, plus(plus(one, four), end()))
	p.Claims = lists(small, great, numbers(-1.5, 1, 0))
	expectIdle(t, n, p, plus(plus(times(oracle.Exact(1.5), one), four), end()))
}

// narrow is a network of KDense layers of these widths over one coordinate.
func narrow(widths ...int) api.Net {
	var layers []api.Layer
	for _, width := range widths {
		layers = append(layers, samples.Dense(width))
	}
	return samples.Network(samples.Line(1), layers...)
}

// 17.8, 17.9: just as many columns as may stay, and one more, at each layer.
func TestIdleWhereColumnsMightBeTrimmed(t *testing.T) {
	for _, x := range []struct {
		k, columns int
		widths     []int
		stay       bool
	}{
		{0, 1, []int{1}, true}, {1, 1, []int{1}, false}, {0, 1, []int{1, 1}, false}, {0, 1, []int{200}, true}, {1, 1, []int{200}, false},
		{1, 2, []int{1}, true}, {2, 2, []int{1}, false}, {7, 8, []int{1}, true}, {8, 8, []int{1}, false}, {7, 7, []int{1}, false},
		{3, 2, []int{3}, true}, {4, 2, []int{3}, false}, {6, 3, []int{3}, true}, {7, 3, []int{3}, false},
		// The second layer: the symbols and the first one's width.
		{0, 2, []int{1, 1}, true}, {0, 2, []int{2, 1}, false}, {1, 2, []int{1, 1}, false}, {1, 3, []int{1, 1}, true}, {1, 2, []int{1, 2}, true}, {2, 2, []int{2, 4}, true}, {2, 2, []int{2, 3}, false},
		{4, 8, []int{3, 1}, true}, {5, 8, []int{3, 1}, false}, {4, 8, []int{4, 1}, false}, {14, 8, []int{2, 3}, true},
		// The third one: both ahead of it, and the symbols.
		{0, 2, []int{1, 1, 2}, true}, {0, 2, []int{1, 1, 1}, false}, {1, 3, []int{1, 1, 1}, false}, {0, 3, []int{1, 1, 1}, true}, {2, 4, []int{1, 3, 2}, true}, {3, 4, []int{1, 3, 2}, false}, {2, 4, []int{2, 3, 2}, false}, {2, 4, []int{1, 4, 2}, false},
		// One between, though the last one is wide.
		{1, 2, []int{3, 1, 200}, false}, {0, 8, []int{8, 1, 200}, false}, {0, 8, []int{7, 1, 200}, true},
		{0, 8, []int{1, 1, 1, 1, 1, 1, 1, 1}, true}, {0, 8, []int{1, 1, 1, 1, 1, 1, 1, 1, 1}, false}, {0, 8, []int{1, 1, 1, 1, 1, 1, 1, 1, 2}, true},
	} {
		n := narrow(x.widths...)
		p := asked(samples.Columns(1, x.widths[len(x.widths)-1]+1), numbers(1), samples.Columns(x.k, 1)...)
		p.K = x.columns
		if got, ok := Idle(n, p); ok != x.stay || ok != (len(got.M) > 0) {
			t.Errorf("%+v: %s %v", x, text(got), ok)
		}
	}
	// The input's width counts for nothing.
	n := samples.Network(samples.Line(200), samples.Dense(1))
	p := asked(lists(numbers(1, 0)), samples.Ones(200), samples.Columns(1, 200)...)
	p.K = 2
	if _, ok := Idle(n, p); !ok {
		t.Error("the input's width counts")
	}
	// KAdd is a layer like others.
	p = asked(lists(numbers(1, 0)), numbers(1), numbers(1))
	for columns, stay := range map[int]bool{2: false, 3: false, 4: true} {
		p.K = columns
		if _, ok := Idle(netOf(1, samples.Add(0), samples.Add(0), samples.Add(0)), p); ok != stay {
			t.Errorf("%d columns a coordinate: %v", columns, ok)
		}
	}
}

// 17.9: none of a bent kind, wherever the layer stands.
func TestIdleOfBentKinds(t *testing.T) {
	linear := scale(2, 1)
	for _, k := range samples.BentKinds() {
		l := kind(k)
		if k == api.KMax {
			l = samples.Windowed(k, 1, 1, 1, 1, 0, 0)
		}
		p := asked(lists(numbers(1, 0)), numbers(1))
		for _, layers := range [][]api.Layer{{l}, {l, linear}, {linear, l}, {linear, l, linear}} {
			n := netOf(1, layers...)
			if e, _ := model.Check(n); e != api.OK {
				t.Fatal(e)
			}
			expectNoIdle(t, n, p)
		}
		if _, ok := Idle(netOf(1, linear, linear), p); !ok {
			t.Error("none without it")
		}
	}
}

// 17.9: a claim's sum may go just as far as 2^1000, with its constant.
func TestIdleAtTheBoundOfClaims(t *testing.T) {
	for _, x := range []struct {
		claim, c []float64
		g        [][]float64
		is       bool
	}{
		{numbers(1, 0), numbers(0x1p1000), nil, true},
		{numbers(1, least), numbers(0x1p1000), nil, false},
		{numbers(-1, -least), numbers(-0x1p1000), nil, false},
		{numbers(1, oracle.MinusZero()), numbers(-0x1p1000), nil, true},
		{numbers(1, 0), numbers(0x1p1000 + 0x1p948), nil, false},
		{numbers(0.5, -0x1p999), numbers(0x1p1000), nil, true},
		{numbers(0.5, -0x1p999), numbers(0x1p1000), lists(numbers(least)), false},
		{numbers(1, 0), numbers(0x1p999), lists(numbers(-0x1p998), numbers(0x1p998)), true},
		{numbers(1, 0), numbers(0x1p999), lists(numbers(-0x1p998), numbers(0x1p998), numbers(least)), false},
		{numbers(0, 0x1p1000), numbers(most), nil, true},
		{numbers(0, -0x1p1000-0x1p948), numbers(most), nil, false},
		{numbers(1, -1, 0), numbers(0x1p999, 0x1p999), nil, true},
		{numbers(1, -1, 0), numbers(0x1p999, 0x1p999+0x1p947), nil, false},
		{numbers(1, 1, 0), numbers(0x1p1000, -0x1p1000), nil, false},
		{numbers(most, 0), numbers(most), lists(numbers(most)), false},
		{numbers(0x1p-100, 0), numbers(most), nil, true},
	} {
		n, p := netOf(len(x.c)), asked(lists(x.claim), x.c, x.g...)
		if x.is {
			expectIdle(t, n, p, end())
		} else {
			expectNoIdle(t, n, p)
		}
		// Also where another claim, ahead or behind, does not.
		small := make([]float64, len(x.claim))
		for _, claims := range [][][]float64{{small, x.claim}, {x.claim, small}} {
			p.Claims = claims
			if _, ok := Idle(n, p); ok != x.is {
				t.Errorf("%s: %v", text(p), ok)
			}
		}
	}
	// The target's claims go as far, too.
	p := asked(nil, numbers(0x1p999, 0x1p999))
	p.Target = 1
	expectIdle(t, netOf(2), p, end())
	p.C[0] = 0x1p999 + 0x1p947
	expectNoIdle(t, netOf(2), p)
}

// 17.9: behind a layer no coordinate may go farther than 2^1000, with what is lost; how far the input goes is not asked.
func TestIdleAtTheBoundOfLayers(t *testing.T) {
	// The greatest number at which M and D are at most 2^1000.
	room := minus(oracle.Power(1000), times(whole(2), oracle.Power(-1073)))
	c := oracle.Roundings(new(big.Rat).Quo(room, plus(whole(1), oracle.Power(-51)))).Number[api.Down]
	next := math.Nextafter(c, most)
	for _, sign := range numbers(1, -1) {
		n := netOf(1, scale(sign, 0))
		expectIdle(t, n, asked(lists(numbers(1, 0)), numbers(c)), plus(lost(oracle.Exact(c), 0), end()))
		expectNoIdle(t, n, asked(lists(numbers(1, 0)), numbers(next)))
		expectNoIdle(t, n, asked(lists(numbers(0, 1)), numbers(next)))
		expectNoIdle(t, netOf(1, scale(0, sign*next)), asked(lists(numbers(0, 1)), numbers(0)))
		expectNoIdle(t, netOf(1, scale(0, 0x1p1000)), asked(lists(numbers(0, 1)), numbers(0)))
	}
	// Behind it all is small again; so it is behind the input, which may be great.
	down := scale(0x1p-900, 0)
	expectNoIdle(t, netOf(1, scale(1, 0), down), asked(lists(numbers(1, 0)), numbers(next)))
	for _, great := range numbers(next, 0x1p1001, most) {
		if _, ok := Idle(netOf(1, down, scale(1, 0)), asked(lists(numbers(1, 0)), numbers(great), numbers(-great))); !ok {
			t.Errorf("the input may not be %v", great)
		}
	}
	// A coordinate that nothing reads.
	n := netOf(1, dense(numbers(1, 1), numbers(0, 0x1p1000)), samples.Network(samples.Shape(2, 1, 1), samples.Dense(1)).Layers[0])
	n.Layers[1].W[1] = 0
	expectNoIdle(t, n, asked(lists(numbers(1, 0)), numbers(1)))
	n.Layers[0].B[1] = 0x1p999
	if _, ok := Idle(n, asked(lists(numbers(1, 0)), numbers(1))); !ok {
		t.Error("half of the bound is too much")
	}
}

// steps are, of each length that a layer may make of another one, a window's length, its step and the noughts around.
func steps(from int) map[int][3]int {
	all := map[int][3]int{}
	for k := 1; k <= api.MaxKernel; k++ {
		for s := 1; s <= api.MaxStride; s++ {
			for p := range k {
				if from+2*p >= k {
					all[(from+2*p-k)/s+1] = [3]int{k, s, p}
				}
			}
		}
	}
	return all
}

// resized is a KMean that makes so many coordinates of a shape of one channel; false, if there is none.
func resized(in api.Shape, width int) (api.Layer, bool) {
	rows, columns := steps(in.H), steps(in.W)
	for h := 1; h <= width; h++ {
		y, high := rows[h]
		x, broad := columns[width/h]
		if width%h == 0 && high && broad {
			return samples.Windowed(api.KMean, y[0], x[0], y[1], x[1], y[2], x[2]), true
		}
	}
	return api.Layer{}, false
}

// longest is a network of as many layers as let all columns stay, each as narrow as may be, and of so many more as are asked for.
func longest(a float64, more int) api.Net {
	n := netOf(1)
	in, ahead := n.In, 0
	for {
		width := max((ahead+6)/7, 1)
		if width > api.MaxWidth {
			width = api.MaxWidth
			if more--; more < 0 {
				return n
			}
		}
		l, ok := resized(in, width)
		for ; !ok; l, ok = resized(in, width) {
			width++
		}
		l.A = a
		n.Layers = append(n.Layers, l)
		in, _ = model.Out(l, in)
		ahead += width
	}
}

// 17.9: as many layers as 17.8 lets pass, of the least and the longest numbers: what is told is small enough.
func TestIdleOfTheLongest(t *testing.T) {
	t.Parallel()
	for _, a := range numbers(least, 0x1.fffffffffffffp-1022, 0.1) {
		n := longest(a, 0)
		_, out := samples.Widths(n)
		p := asked(samples.Columns(1, out+1), numbers(0x1.fffffffffffffp-1000))
		p.Claims[0][0] = least
		got, ok := Idle(n, p)
		if !ok || len(n.Layers) != 46 || point.Check(got) != api.OK || got.Neg {
			t.Fatalf("%d layers of %v: %s %v", len(n.Layers), a, text(got), ok)
		}
		if a == least && got.E > -46*1074 {
			t.Errorf("it goes to 2^%d only", got.E)
		}
		expectNoIdle(t, longest(a, 1), p)
	}
}

// 17.9: networks and questions that are refused.
func TestIdleOfWhatIsRefused(t *testing.T) {
	for _, r := range samples.RefusedNets() {
		for _, p := range []api.Prop{{}, asked(lists(numbers(1, 0)), numbers(1)), asked(lists(numbers(1, 0, 0)), numbers(1, 1))} {
			expectNoIdle(t, r.Net, p)
		}
	}
	n := samples.Network(samples.Line(3), samples.Dense(4))
	p := samples.Question()
	p.K = 3
	if _, ok := Idle(n, p); !ok {
		t.Fatal("none of an ordinary question")
	}
	for _, r := range samples.RefusedProps() {
		if r.Prop.K == 2 {
			r.Prop.K = 3
		}
		expectNoIdle(t, n, r.Prop)
	}
	// A question to the input's and the last output's widths, not to those of a layer between.
	n = samples.Network(samples.Line(3), samples.Dense(4), samples.Dense(5))
	p.K = 8
	expectNoIdle(t, n, p)
	p.Claims = samples.Columns(1, 6)
	if _, ok := Idle(n, p); !ok {
		t.Error("none of a question of other widths")
	}
}

// sized is what a linear layer makes of reals if all its numbers lose their signs, and, if it is asked so, with or without what stands beside the weights. earlier is the output that a KAdd adds.
func sized(l api.Layer, in, out api.Shape, v, earlier []*big.Rat, beside bool) []*big.Rat {
	size := func(a float64) float64 { return math.Abs(a) }
	l.W, l.B, l.Z, l.ZB = slices.Clone(l.W), slices.Clone(l.B), slices.Clone(l.Z), slices.Clone(l.ZB)
	l.A = size(l.A)
	for i, a := range l.W {
		l.W[i] = size(a)
	}
	for i, a := range l.B {
		l.B[i] = size(a)
		if !beside {
			l.B[i] = 0
		}
	}
	// In the real parts the imaginary ones meet with a minus, so that they must have one.
	conjugate := l
	conjugate.Z, conjugate.ZB = slices.Clone(l.Z), slices.Clone(l.ZB)
	for i, z := range l.Z {
		l.Z[i], conjugate.Z[i] = complex(size(real(z)), size(imag(z))), complex(size(real(z)), -size(imag(z)))
	}
	for i, z := range l.ZB {
		l.ZB[i] = complex(size(real(z)), size(imag(z)))
		if !beside {
			l.ZB[i] = 0
		}
		conjugate.ZB[i] = l.ZB[i]
	}
	all, _ := oracle.Told(l, in, out, v, earlier)
	if l.Kind == api.KTurn {
		others, _ := oracle.Told(conjugate, in, out, v, earlier)
		for i := 0; i < len(all); i += 2 {
			all[i] = others[i]
		}
	}
	return all
}

// wantIdle is what Idle tells of a network and a question that may be, or why it tells nothing.
func wantIdle(n api.Net, p api.Prop) (*big.Rat, string) {
	shapes, _, _ := model.Shapes(n)
	ahead := len(p.G)
	for m, l := range n.Layers {
		width, _ := model.Size(shapes[m+1])
		if l.Kind > api.KTurn {
			return nil, "bent"
		}
		if ahead > (p.K-1)*width {
			return nil, "trimmed"
		}
		ahead += width
	}
	var s, off []*big.Rat
	for i, c := range p.C {
		v := size(oracle.Exact(c))
		for _, g := range p.G {
			v = plus(v, size(oracle.Exact(g[i])))
		}
		s, off = append(s, v), append(off, new(big.Rat))
	}
	bound := oracle.Power(1000)
	allS, allT, q := [][]*big.Rat{s}, [][]*big.Rat{off}, int64(len(p.G))
	for m, l := range n.Layers {
		far := sized(l, shapes[m], shapes[m+1], allS[m], allS[l.From], true)
		off := sized(l, shapes[m], shapes[m+1], allT[m], allT[l.From], false)
		for i, v := range far {
			far[i], off[i] = plus(v, lost(v, q)), plus(off[i], lost(v, q))
			if far[i].Cmp(bound) > 0 {
				return nil, "a layer too far"
			}
		}
		allS, allT, q = append(allS, far), append(allT, off), q+int64(len(far))
	}
	return greatestOff(call{n: n, p: p}, allS[len(n.Layers)], allT[len(n.Layers)])
}

// greatestOff is the greatest number over all claims.
func greatestOff(c call, s, off []*big.Rat) (*big.Rat, string) {
	best := new(big.Rat)
	for _, a := range c.claims() {
		sizes := slices.Clone(a)
		for i := range sizes {
			sizes[i] = math.Abs(sizes[i])
		}
		if sumOf(sizes, s).Cmp(oracle.Power(1000)) > 0 {
			return nil, "a claim too far"
		}
		if v := plus(along(sizes, off), end()); v.Cmp(best) > 0 {
			best = v
		}
	}
	return best, "told"
}

// tame is a call of a linear network in which few columns are trimmed and few numbers are great.
func tame(m *oracle.Mixer) call {
	c := few(m, someCall(m, samples.LinearKinds(), 0), 4)
	if m.Below(4) > 0 {
		c.p.K = api.MaxK
	}
	for _, a := range c.p.Claims {
		for i := range a {
			if m.Below(4) > 0 {
				a[i] = m.Number(0)
			}
		}
	}
	return c
}

// 17.9: the same answers, of every linear kind.
func TestTwinOfIdle(t *testing.T) {
	t.Parallel()
	var m oracle.Mixer
	seen := oracle.Tally{}
	for range 3000 {
		c := tame(&m)
		want, why := wantIdle(c.n, c.p)
		if want != nil {
			expectIdle(t, c.n, c.p, want)
		} else {
			expectNoIdle(t, c.n, c.p)
		}
		if t.Failed() {
			return
		}
		seen.Note(why, true)
		for k, l := range c.n.Layers {
			seen.Note(kindName(l.Kind), why == "told")
			seen.Note("a sum with a layer", why == "told" && l.Kind == api.KAdd && l.From > 0 && l.From < k)
		}
	}
	seen.Expect(t, 50, "told", "trimmed", "a layer too far", "a claim too far")
	seen.Expect(t, 5, "a sum with a layer")
	for _, k := range samples.LinearKinds() {
		seen.Expect(t, 50, kindName(k))
	}
}

// 17.9: of ordinary networks of each kind, with windows and complex rows.
func TestTwinOfOrdinaryNetworks(t *testing.T) {
	for _, n := range samples.Nets() {
		for _, k := range []int{0, 1, 3} {
			p := samples.QuestionTo(n, k)
			p.K = api.MaxK
			want, why := wantIdle(n, p)
			if why == "told" {
				expectIdle(t, n, p, want)
			} else {
				expectNoIdle(t, n, p)
			}
		}
	}
}
