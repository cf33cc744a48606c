package walk

import (
	"fmt"
	"math/big"
	"slices"
	"testing"

	"ambit/api"
	"ambit/elem"
	"ambit/model"
	"ambit/oracle"
	"ambit/samples"
)

// A second walk, of exact fractions, by the words of the chapter.

func plus(a, b *big.Rat) *big.Rat { return new(big.Rat).Add(a, b) }

func minus(a, b *big.Rat) *big.Rat { return new(big.Rat).Sub(a, b) }

func times(a, b *big.Rat) *big.Rat { return new(big.Rat).Mul(a, b) }

func lesser(a, b *big.Rat) *big.Rat {
	if a.Cmp(b) <= 0 {
		return a
	}
	return b
}

func greater(a, b *big.Rat) *big.Rat {
	if a.Cmp(b) >= 0 {
		return a
	}
	return b
}

// outward is the span from down of one real to up of another.
func outward(lo, hi *big.Rat) api.Span {
	p, q := oracle.Roundings(lo), oracle.Roundings(hi)
	if !p.Is[api.Down] || !q.Is[api.Up] {
		return samples.BadSpan()
	}
	return samples.Between(p.Number[api.Down], q.Number[api.Up])
}

// hangsOn are the places of the input on which a coordinate hangs, by the table of DOC.md, Networks.
func hangsOn(l api.Layer, in api.Shape, i int, at [3]int) []int {
	var places []int
	for j, c := range oracle.Coordinates(in) {
		takes := j == i
		switch l.Kind {
		case api.KDense, api.KTurn:
			takes = true
		case api.KConv, api.KMean, api.KMax:
			p, q := c[1]-(at[1]*l.SH-l.PH), c[2]-(at[2]*l.SW-l.PW)
			takes = p >= 0 && p < l.KH && q >= 0 && q < l.KW && (l.Kind == api.KConv || c[0] == at[0])
		}
		if takes {
			places = append(places, j)
		}
	}
	return places
}

// A matrix is what a linear layer is: what it tells of noughts, and for each coordinate of its input what it tells more of a 1 there.
type matrix struct {
	b []*big.Rat
	w [][]*big.Rat
}

func matrixOf(l api.Layer, in api.Shape) matrix {
	unit := slices.Repeat([]*big.Rat{new(big.Rat)}, width(in))
	is := matrix{b: oracle.Tells(l, in, behind(l, in), unit)}
	for j := range unit {
		unit[j] = big.NewRat(1, 1)
		more := oracle.Tells(l, in, behind(l, in), unit)
		unit[j] = new(big.Rat)
		for i, v := range more {
			more[i] = minus(v, is.b[i])
		}
		is.w = append(is.w, more)
	}
	return is
}

// ends are the least and the greatest that a matrix tells at a coordinate, of spans at some places.
func (x matrix) ends(i int, places []int, s []api.Span) (lo, hi *big.Rat) {
	lo, hi = x.b[i], x.b[i]
	for k, j := range places {
		a, b := times(x.w[j][i], oracle.Exact(s[k].Lo)), times(x.w[j][i], oracle.Exact(s[k].Hi))
		lo, hi = plus(lo, lesser(a, b)), plus(hi, greater(a, b))
	}
	return lo, hi
}

// bentEnds are the ends of what a bent layer tells of the spans that a coordinate hangs on.
func bentEnds(l api.Layer, s []api.Span) (lo, hi *big.Rat) {
	lo, hi = oracle.Exact(s[0].Lo), oracle.Exact(s[0].Hi)
	f := func(x *big.Rat) *big.Rat {
		if x.Sign() > 0 {
			return x
		}
		return times(oracle.Exact(l.A), x)
	}
	switch l.Kind {
	case api.KRelu:
		return greater(lo, new(big.Rat)), greater(hi, new(big.Rat))
	case api.KLeaky:
		return f(lo), f(hi)
	case api.KTanh:
		return oracle.Exact(elem.Tanh(s[0].Lo).Lo), oracle.Exact(elem.Tanh(s[0].Hi).Hi)
	case api.KSigmoid:
		return oracle.Exact(elem.Sigmoid(s[0].Lo).Lo), oracle.Exact(elem.Sigmoid(s[0].Hi).Hi)
	case api.KSquare:
		a, b := times(lo, lo), times(hi, hi)
		if lo.Sign() <= 0 && hi.Sign() >= 0 {
			return new(big.Rat), greater(a, b)
		}
		return lesser(a, b), greater(a, b)
	}
	for _, one := range s {
		lo, hi = greater(lo, oracle.Exact(one.Lo)), greater(hi, oracle.Exact(one.Hi))
	}
	return lo, hi
}

// wantStep is what Step tells, whatever it is given.
func wantStep(c call) []api.Span {
	if model.Layer(c.l, c.in) != api.OK || len(c.v) != width(c.in) || c.l.Kind == api.KAdd && len(c.earlier) != width(c.in) {
		return nil
	}
	ends := c.endsOf()
	var all []api.Span
	for i, at := range oracle.Coordinates(behind(c.l, c.in)) {
		places := hangsOn(c.l, c.in, i, at)
		var s []api.Span
		for _, j := range places {
			s = append(s, c.v[j])
		}
		if c.l.Kind == api.KAdd {
			s = append(s, c.earlier[i])
		}
		if slices.ContainsFunc(s, mayNotBe) {
			all = append(all, samples.BadSpan())
			continue
		}
		all = append(all, outward(ends(i, places, s)))
	}
	return all
}

// endsOf tells the ends of a coordinate, of the places that it hangs on and their spans.
func (c call) endsOf() func(i int, places []int, s []api.Span) (lo, hi *big.Rat) {
	switch {
	case c.l.Kind == api.KAdd:
		return func(i int, places []int, s []api.Span) (lo, hi *big.Rat) {
			return plus(oracle.Exact(s[0].Lo), oracle.Exact(s[1].Lo)), plus(oracle.Exact(s[0].Hi), oracle.Exact(s[1].Hi))
		}
	case c.l.Kind < api.KRelu:
		x := matrixOf(c.l, c.in)
		return func(i int, places []int, s []api.Span) (lo, hi *big.Rat) { return x.ends(i, places, s) }
	}
	return func(i int, places []int, s []api.Span) (lo, hi *big.Rat) { return bentEnds(c.l, s) }
}

// wantEval is what Eval tells, whatever it is given.
func wantEval(n api.Net, v []api.Span) ([]api.Span, api.Errno, int) {
	shapes, e, at := model.Shapes(n)
	if e != api.OK {
		return nil, e, at
	}
	if len(v) != width(n.In) {
		return nil, api.ErrCount, 0
	}
	var first []api.Span
	for _, s := range v {
		if mayNotBe(s) {
			first = append(first, samples.BadSpan())
		} else {
			first = append(first, outward(oracle.Exact(s.Lo), oracle.Exact(s.Hi)))
		}
	}
	outputs := [][]api.Span{first}
	for m, l := range n.Layers {
		outputs = append(outputs, wantStep(call{l, shapes[m], outputs[m], outputs[l.From]}))
	}
	at = -1
	for m := len(outputs) - 1; m >= 0; m-- {
		if slices.ContainsFunc(outputs[m], mayNotBe) {
			at = m
		}
	}
	return outputs[len(n.Layers)], api.OK, at
}

// 15.2: the same answers, of each kind, and each sort of answer comes up.
func TestTwinOfSteps(t *testing.T) {
	t.Parallel()
	var m oracle.Mixer
	seen := oracle.Tally{}
	for range 3000 {
		c := someCall(&m, samples.EveryKind())
		want := wantStep(c)
		c.expect(t, want)
		if t.Failed() {
			return
		}
		name := fmt.Sprintf("kind %d ", c.l.Kind)
		for _, s := range want {
			seen.Note(name+"good", !s.Bad)
			seen.Note(name+"bad", s.Bad)
			seen.Note(name+"at a point", !s.Bad && s.Lo == s.Hi)
		}
		windows := c.l.KH*c.l.KW > 1
		seen.Note("windows", windows)
		seen.Note("padding", windows && c.l.PH+c.l.PW > 0)
		good := !slices.ContainsFunc(join(c.v, c.earlier), mayNotBe)
		seen.Note("no number", good && slices.ContainsFunc(want, mayNotBe))
	}
	for _, k := range samples.EveryKind() {
		seen.Expect(t, 100, fmt.Sprintf("kind %d good", k))
		seen.Expect(t, 20, fmt.Sprintf("kind %d bad", k))
		seen.Expect(t, 5, fmt.Sprintf("kind %d at a point", k))
	}
	seen.Expect(t, 100, "windows", "padding", "no number")
}

// 15.2: likewise whatever layer it is, and whatever spans there are.
func TestTwinOfAnySteps(t *testing.T) {
	t.Parallel()
	var m oracle.Mixer
	seen := oracle.Tally{}
	for range 4000 {
		c := anyCall(&m)
		want := wantStep(c)
		c.expect(t, want)
		if t.Failed() {
			return
		}
		seen.Note("none", len(want) == 0)
		seen.Note("some", len(want) > 0)
	}
	seen.Expect(t, 500, "none", "some")
}

// anyCall is one with anything in it, though spans are often as many as they must be.
func anyCall(m *oracle.Mixer) call {
	n := samples.AnyNet(m)
	l := samples.Relu()
	if len(n.Layers) > 0 {
		l = n.Layers[0]
	}
	c := call{l: l, in: n.In}
	size := width(n.In)
	for _, list := range []*[]api.Span{&c.v, &c.earlier} {
		*list = someSpans(m, size)
		if m.Below(8) == 0 {
			*list = someSpans(m, max(0, size+m.Below(3)-1))
		}
	}
	return c
}

// 15.2: every two numbers at which something changes, of each kind that is told of one coordinate.
func TestTwinOfStepsAtEdges(t *testing.T) {
	t.Parallel()
	all := oracle.Edges()
	for i, a := range all {
		var v, earlier []api.Span
		for j, b := range all {
			v = append(v, samples.Between(a, b))
			earlier = append(earlier, samples.Between(all[(i+7*j)%len(all)], all[(3*i+j)%len(all)]))
		}
		w := all[(5*i)%len(all)]
		for _, l := range []api.Layer{samples.Relu(), samples.Leaky(0.1), samples.Leaky([]float64{0, 0.5, oracle.Least, 1}[i%4]), kind(api.KSquare), samples.Add(0), pool(2, 1, 1), scale(numbers(w), numbers(a)), mean(w, 1, 1, 0)} {
			c := call{l, samples.Line(len(v)), v, earlier}
			c.expect(t, wantStep(c))
		}
		if t.Failed() {
			return
		}
	}
}

// 15.3: the same answers of networks.
func TestTwinOfEval(t *testing.T) {
	t.Parallel()
	var m oracle.Mixer
	seen := oracle.Tally{}
	for range 1200 {
		n := samples.NetOfKinds(&m, samples.EveryKind(), 0)
		v := someSpans(&m, width(n.In))
		want, e, at := wantEval(n, v)
		expectEvalOr(t, n, v, want, e, at)
		if t.Failed() {
			return
		}
		seen.Note("no layers", len(n.Layers) == 0)
		seen.Note("bad input", at == 0)
		seen.Note("bad behind a layer", at > 0)
		seen.Note("bad on the way alone", at >= 0 && !slices.ContainsFunc(want, mayNotBe))
		seen.Note("not bad", at == -1)
		for _, l := range n.Layers {
			seen.Note(fmt.Sprintf("kind %d", l.Kind), at == -1)
			seen.Note("a sum with what is far ahead", l.Kind == api.KAdd && l.From+2 < len(n.Layers))
		}
	}
	seen.Expect(t, 10, "no layers", "bad input", "bad behind a layer", "bad on the way alone", "not bad", "a sum with what is far ahead")
	for _, k := range samples.EveryKind() {
		seen.Expect(t, 50, fmt.Sprintf("kind %d", k))
	}
}

// 15.3: likewise whatever network it is, and whatever spans.
func TestTwinOfAnyEval(t *testing.T) {
	t.Parallel()
	var m oracle.Mixer
	seen := map[api.Errno]int{}
	for range 4000 {
		n := samples.AnyNet(&m)
		size := width(n.In)
		if m.Below(8) == 0 {
			size = max(0, size+m.Below(3)-1)
		}
		v := someSpans(&m, size)
		want, e, at := wantEval(n, v)
		expectEvalOr(t, n, v, want, e, at)
		if t.Failed() {
			return
		}
		seen[e]++
	}
	for _, e := range []api.Errno{api.OK, api.ErrCount, api.ErrKind, api.ErrShape, api.ErrField, api.ErrName} {
		if seen[e] < 10 {
			t.Errorf("%v came up %d times only", e, seen[e])
		}
	}
}
