package walk

import (
	"fmt"
	"math"
	"math/big"
	"slices"
	"testing"

	"ambit/api"
	"ambit/model"
	"ambit/oracle"
	"ambit/samples"
)

// someReal is a real of a span: one of its ends, 0, if that lies in it, or one between. Where the span is none that may be it is any real.
func someReal(m *oracle.Mixer, s api.Span) *big.Rat {
	if mayNotBe(s) {
		return big.NewRat(int64(m.Below(200)-100), 7)
	}
	lo, hi := oracle.Exact(s.Lo), oracle.Exact(s.Hi)
	if lo.Sign() < 0 && hi.Sign() > 0 && m.Below(6) == 0 {
		return new(big.Rat)
	}
	share := big.NewRat([]int64{0, 0, 1, 333, 500, 999, 1000, 1000}[m.Below(8)], 1000)
	return plus(lo, times(share, minus(hi, lo)))
}

func someReals(m *oracle.Mixer, v []api.Span) []*big.Rat {
	var all []*big.Rat
	for _, s := range v {
		all = append(all, someReal(m, s))
	}
	return all
}

// exactly are bounds of what a layer tells of exact reals.
func exactly(l api.Layer, in api.Shape, x, earlier []*big.Rat) (low, high []*big.Rat) {
	return oracle.Told(l, in, behind(l, in), x, earlier)
}

// expectHeld holds spans that are not bad to holding all from low to high.
func expectHeld(t *testing.T, what any, told []api.Span, low, high []*big.Rat) {
	t.Helper()
	if len(told) != len(low) {
		t.Fatalf("%s: %d spans, not %d", text(what), len(told), len(low))
	}
	for i, s := range told {
		if !s.Bad && (low[i].Cmp(oracle.Exact(s.Lo)) < 0 || high[i].Cmp(oracle.Exact(s.Hi)) > 0) {
			t.Fatalf("%s: the coordinate %d is %v, not in [%x, %x]", text(what), i, low[i], s.Lo, s.Hi)
		}
	}
}

// slowly tells whether the bounds of what a layer tells take their time.
func slowly(l api.Layer) bool { return l.Kind == api.KTanh || l.Kind == api.KSigmoid }

// 15.4: of points in the spans the exact output lies in those told, whatever the bad ones are.
func TestStepHolds(t *testing.T) {
	t.Parallel()
	var m oracle.Mixer
	seen := oracle.Tally{}
	for range 3000 {
		c := someCall(&m, samples.EveryKind())
		told, rounds := c.answer(), 4
		if slowly(c.l) {
			rounds = 1
		}
		for range rounds {
			low, high := exactly(c.l, c.in, someReals(&m, c.v), someReals(&m, c.earlier))
			expectHeld(t, c, told, low, high)
		}
		good := slices.ContainsFunc(told, func(s api.Span) bool { return !s.Bad })
		seen.Note(fmt.Sprintf("kind %d", c.l.Kind), good)
		seen.Note("beside a bad one", good && slices.ContainsFunc(c.v, mayNotBe))
	}
	seen.Expect(t, 100, "beside a bad one")
	for _, k := range samples.EveryKind() {
		seen.Expect(t, 100, fmt.Sprintf("kind %d", k))
	}
}

// 15.4: likewise at the edges of the numbers.
func TestStepHoldsAtEdges(t *testing.T) {
	t.Parallel()
	var m oracle.Mixer
	all := oracle.Edges()
	for i, a := range all {
		var v []api.Span
		for _, b := range all {
			v = append(v, samples.Between(a, b))
		}
		in := samples.Line(len(v))
		for _, l := range []api.Layer{samples.Relu(), samples.Leaky(0.1), kind(api.KSquare), samples.Add(0), pool(3, 2, 1), scale(numbers(all[(7*i)%len(all)]), numbers(a))} {
			c := call{l, in, v, v}
			low, high := exactly(l, in, someReals(&m, v), someReals(&m, v))
			expectHeld(t, c, c.answer(), low, high)
		}
	}
}

// 15.4: of a network too. What KTanh and KSigmoid tell is no fraction, so that these come last.
func TestEvalHolds(t *testing.T) {
	t.Parallel()
	var m oracle.Mixer
	seen := oracle.Tally{}
	for i := range 1500 {
		n := samples.NetOfKinds(&m, samples.ExactKinds(), 1)
		if i%10 == 0 {
			n.Layers = append(n.Layers, kind([]int{api.KTanh, api.KSigmoid}[m.Below(2)]))
		}
		shapes, _, _ := model.Shapes(n)
		v := someSpans(&m, width(n.In))
		outputs := [][]*big.Rat{someReals(&m, v)}
		var high []*big.Rat
		for k, l := range n.Layers {
			var low []*big.Rat
			low, high = exactly(l, shapes[k], outputs[k], outputs[l.From])
			outputs = append(outputs, low)
		}
		told, e, at := Eval(n, v)
		if e != api.OK {
			t.Fatalf("%v at %d", e, at)
		}
		expectHeld(t, n, told, outputs[len(n.Layers)], high)
		good := slices.ContainsFunc(told, func(s api.Span) bool { return !s.Bad })
		seen.Note("told", good)
		seen.Note("told of many layers", good && len(n.Layers) > 3)
		seen.Note("told beside a bad one", good && at >= 0)
		seen.Note("at its end a function that samples.Rises", good && slowly(n.Layers[len(n.Layers)-1]))
	}
	seen.Expect(t, 50, "told", "told of many layers", "told beside a bad one", "at its end a function that samples.Rises")
}

// 15.3, 15.4: a network is its layers, one step behind the other, of each kind at each place.
func TestEvalGoesStepByStep(t *testing.T) {
	t.Parallel()
	var m oracle.Mixer
	for range 1500 {
		n := samples.NetOfKinds(&m, samples.EveryKind(), 1)
		v := someSpans(&m, width(n.In))
		shapes, _, _ := model.Shapes(n)
		last := len(n.Layers) - 1
		outputs := make([][]api.Span, len(n.Layers))
		first := -1
		for k := range outputs {
			var at int
			outputs[k], _, at = Eval(netOf(n.In, n.Layers[:k]...), v)
			first = max(first, at)
		}
		want := Step(n.Layers[last], shapes[last], outputs[last], outputs[n.Layers[last].From])
		if first < 0 && slices.ContainsFunc(want, mayNotBe) {
			first = last + 1
		}
		expectEval(t, n, v, want, first)
	}
}

// place is where a number stands in the row of all numbers.
func place(a float64) int {
	if a < 0 {
		return -int(api.Bits(-a))
	}
	return int(api.Bits(math.Abs(a)))
}

// part is a span that lies inside another, often with an end of it; any span lies inside one that may not be, of which nothing is told.
func part(m *oracle.Mixer, s api.Span) api.Span {
	if mayNotBe(s) {
		return samples.MixedSpan(m, samples.MixedKind(m))
	}
	from, to := place(s.Lo), place(s.Hi)
	pick := func() int {
		switch m.Below(4) {
		case 0:
			return from
		case 1:
			return to
		}
		// How far it is may leave an int, but not a word without a sign.
		return from + int(m.Word()%(uint64(to-from)+1))
	}
	p, q := pick(), pick()
	return samples.Between(oracle.NumberAt(min(p, q)), oracle.NumberAt(max(p, q)))
}

func parts(m *oracle.Mixer, v []api.Span) []api.Span {
	var all []api.Span
	for _, s := range v {
		all = append(all, part(m, s))
	}
	return all
}

// expectInside holds each span of wide that is not bad to holding that of narrow.
func expectInside(t *testing.T, what any, wide, narrow []api.Span) {
	t.Helper()
	if len(wide) != len(narrow) {
		t.Fatalf("%s: %d spans and %d", text(what), len(wide), len(narrow))
	}
	for i, s := range wide {
		if u := narrow[i]; !s.Bad && (u.Bad || u.Lo < s.Lo || u.Hi > s.Hi) {
			t.Fatalf("%s: at %d [%x, %x] is told of the wider one, [%x, %x] %v of the other", text(what), i, s.Lo, s.Hi, u.Lo, u.Hi, u.Bad)
		}
	}
}

// 15.5: of a wider span comes a wider one.
func TestWiderSpansTellWiderOnes(t *testing.T) {
	t.Parallel()
	var m oracle.Mixer
	seen := oracle.Tally{}
	for range 8000 {
		c := someCall(&m, samples.EveryKind())
		wide := c.answer()
		narrow := call{c.l, c.in, parts(&m, c.v), parts(&m, c.earlier)}.answer()
		expectInside(t, c, wide, narrow)
		for i, s := range wide {
			seen.Note(fmt.Sprintf("kind %d", c.l.Kind), !s.Bad && !samples.SameSpan(s, narrow[i]))
			seen.Note("good inside bad", s.Bad && !narrow[i].Bad)
		}
	}
	seen.Expect(t, 100, "good inside bad")
	for _, k := range samples.EveryKind() {
		seen.Expect(t, 100, fmt.Sprintf("kind %d", k))
	}
}

// 15.5: likewise of networks.
func TestWiderSpansTellWiderOnesOfNetworks(t *testing.T) {
	t.Parallel()
	var m oracle.Mixer
	seen := oracle.Tally{}
	for range 2500 {
		n := samples.NetOfKinds(&m, samples.EveryKind(), 1)
		v := someSpans(&m, width(n.In))
		wide, _, at := Eval(n, v)
		narrow, _, first := Eval(n, parts(&m, v))
		expectInside(t, n, wide, narrow)
		seen.Note("not bad", at == -1)
		seen.Note("bad later", at > 0 && (first > at || first == -1))
		if at > 0 && first >= 0 && first < at {
			t.Fatalf("%s: bad at %d, but the wider one at %d", text(n), first, at)
		}
	}
	seen.Expect(t, 50, "not bad")
	seen.Expect(t, 10, "bad later")
}

// 15.6: at points no further number lies between the ends, of every kind but KTanh and KSigmoid.
func TestPointsAreNarrow(t *testing.T) {
	t.Parallel()
	var m oracle.Mixer
	seen := oracle.Tally{}
	for range 6000 {
		c := someCall(&m, samples.ExactKinds())
		for _, v := range [][]api.Span{c.v, c.earlier} {
			for i := range v {
				v[i].Hi = v[i].Lo
			}
		}
		for _, s := range c.answer() {
			if s.Bad {
				continue
			}
			if s.Hi != s.Lo && s.Hi != math.Nextafter(s.Lo, math.Inf(1)) {
				t.Fatalf("%s: [%x, %x]", text(c), s.Lo, s.Hi)
			}
			seen.Note(fmt.Sprintf("kind %d", c.l.Kind), true)
			seen.Note(fmt.Sprintf("kind %d between two", c.l.Kind), s.Lo < s.Hi)
		}
	}
	for _, k := range samples.ExactKinds() {
		seen.Expect(t, 200, fmt.Sprintf("kind %d", k))
		if k != api.KRelu && k != api.KMax {
			seen.Expect(t, 30, fmt.Sprintf("kind %d between two", k))
		}
	}
}

// 15.6: KRelu and KMax tell points of points, and every linear kind does where nothing is rounded.
func TestPointsOfPoints(t *testing.T) {
	var m oracle.Mixer
	for range 1500 {
		c := someCall(&m, samples.ExactKinds())
		x := someWholes(&m, len(c.v))
		l, ok := samples.LayerOf(&m, c.l.Kind, c.in, func() float64 { return someWholes(&m, 1)[0] })
		if !ok {
			continue
		}
		if l.Kind == api.KLeaky {
			l.A = 0.5
		}
		low, _ := exactly(l, c.in, exacts(x), exacts(x))
		var want []api.Span
		for _, v := range low {
			a, _ := v.Float64()
			want = append(want, samples.Between(a+0, a+0))
		}
		call{l, c.in, Points(x), Points(x)}.expect(t, want)
	}
}

// someWholes are small whole numbers, also 0, with either sign.
func someWholes(m *oracle.Mixer, n int) []float64 {
	var all []float64
	for range n {
		all = append(all, float64(m.Below(15)-7))
	}
	return all
}

func exacts(l []float64) []*big.Rat {
	var all []*big.Rat
	for _, a := range l {
		all = append(all, oracle.Exact(a))
	}
	return all
}

// expectFormed holds an answer to what every answer is: spans that may be, or bad ones with noughts; no nought has a sign.
func expectFormed(t *testing.T, what any, l []api.Span) {
	t.Helper()
	for _, s := range l {
		bad := samples.SameSpan(s, samples.BadSpan())
		if !bad && mayNotBe(s) || oracle.Same(s.Lo, oracle.MinusZero()) || oracle.Same(s.Hi, oracle.MinusZero()) {
			t.Fatalf("%s tells %v", text(what), s)
		}
	}
}

// wild is any span there is.
func wild(m *oracle.Mixer) api.Span {
	s := api.Span{Lo: api.Float(m.Word()), Hi: api.Float(m.Word()), Bad: m.Below(5) == 0}
	if m.Below(2) == 0 && s.Lo > s.Hi {
		s.Lo, s.Hi = s.Hi, s.Lo
	}
	return s
}

// 15.7: whatever is handed in, a call ends, and answers what may be answered, twice the same.
func TestAnythingEnds(t *testing.T) {
	t.Parallel()
	var m oracle.Mixer
	seen := oracle.Tally{}
	for range 8000 {
		c := anyCall(&m)
		for i := range c.v {
			if m.Below(4) == 0 {
				c.v[i] = wild(&m)
			}
		}
		told := c.answer()
		expectFormed(t, c, told)
		c.expect(t, told)
		seen.Note("a step", len(told) > 0)
		seen.Note("no step", len(told) == 0)
		n := samples.AnyNet(&m)
		v := c.v
		if m.Below(2) == 0 {
			v = someSpans(&m, width(n.In))
		}
		last, e, at := Eval(n, v)
		expectFormed(t, n, last)
		if e != api.OK && len(last) > 0 || e == api.OK && len(last) == 0 || at < -1 || at > len(n.Layers) || e != api.OK && at < 0 {
			t.Fatalf("Eval(%s, %s): %s %v at %d", text(n), text(v), text(last), e, at)
		}
		expectEvalOr(t, n, v, last, e, at)
		seen.Note("a network", e == api.OK)
		seen.Note("no network", e != api.OK)
		x := numbers(api.Float(m.Word()), api.Float(m.Word()))
		expectFormed(t, x, Points(x))
	}
	seen.Expect(t, 500, "a step", "no step", "a network", "no network")
}

// Numbers: the sign of a nought turns nothing, in spans as well as in layers.
func TestSignsOfNoughtsTurnNothing(t *testing.T) {
	t.Parallel()
	var m oracle.Mixer
	flip := func(l []float64) []float64 {
		all := slices.Clone(l)
		for i, a := range all {
			if a == 0 {
				all[i] = -a
			}
		}
		return all
	}
	flipSpans := func(v []api.Span) []api.Span {
		all := slices.Clone(v)
		for i, s := range all {
			ends := flip(numbers(s.Lo, s.Hi))
			all[i].Lo, all[i].Hi = ends[0], ends[1]
		}
		return all
	}
	for range 3000 {
		c := someCall(&m, samples.EveryKind())
		l := c.l
		l.W, l.B = flip(l.W), flip(l.B)
		if l.Kind == api.KLeaky || l.Kind == api.KMean {
			l.A = flip(numbers(l.A))[0]
		}
		call{l, c.in, flipSpans(c.v), flipSpans(c.earlier)}.expect(t, c.answer())
	}
}
