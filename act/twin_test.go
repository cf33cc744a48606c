package act

import (
	"fmt"
	"math/big"
	"testing"

	"ambit/api"
	"ambit/elem"
	"ambit/oracle"
	"ambit/samples"
	"ambit/zono"
)

// A second act, of exact fractions, by the words of the chapter.

func plus(a, b *big.Rat) *big.Rat { return new(big.Rat).Add(a, b) }

func minus(a, b *big.Rat) *big.Rat { return new(big.Rat).Sub(a, b) }

func times(a, b *big.Rat) *big.Rat { return new(big.Rat).Mul(a, b) }

func over(a, b *big.Rat) *big.Rat { return new(big.Rat).Quo(a, b) }

func size(a *big.Rat) *big.Rat { return new(big.Rat).Abs(a) }

func half(a *big.Rat) *big.Rat { return times(a, big.NewRat(1, 2)) }

func greater(a, b *big.Rat) *big.Rat {
	if a.Cmp(b) < 0 {
		return b
	}
	return a
}

func isNumber(a float64) bool { return a-a == 0 }

// rounded is a number that there must be.
func rounded(d api.Dir, v *big.Rat) float64 {
	r := oracle.Roundings(v)
	if !r.Is[d] {
		panic("no number")
	}
	return r.Number[d]
}

// A twin rounds reals, and keeps in mind whether a number was none.
type twin struct{ failed bool }

func (w *twin) round(d api.Dir, v *big.Rat) float64 {
	r := oracle.Roundings(v)
	w.failed = w.failed || !r.Is[d]
	return r.Number[d]
}

func (w *twin) near(v *big.Rat) float64 { return w.round(api.Near, v) }

func (w *twin) up(v *big.Rat) float64 { return w.round(api.Up, v) }

func (w *twin) down(v *big.Rat) float64 { return w.round(api.Down, v) }

func (w *twin) relu(s api.Span) (float64, api.Span) {
	a, b := oracle.Exact(s.Lo), oracle.Exact(s.Hi)
	if b.Sign() <= 0 {
		return 0, api.Span{}
	}
	if a.Sign() >= 0 {
		return 1, api.Span{}
	}
	slope := w.near(over(b, minus(b, a)))
	k := oracle.Exact(slope)
	return slope, between(0, w.up(greater(times(minus(big.NewRat(1, 1), k), b), new(big.Rat).Neg(times(k, a)))))
}

func (w *twin) leaky(factor float64, s api.Span) (float64, api.Span) {
	a, b, f := oracle.Exact(s.Lo), oracle.Exact(s.Hi), oracle.Exact(factor)
	if b.Sign() <= 0 {
		return w.near(f), api.Span{}
	}
	if a.Sign() >= 0 {
		return 1, api.Span{}
	}
	slope := w.near(over(minus(b, times(f, a)), minus(b, a)))
	k := oracle.Exact(slope)
	return slope, between(0, w.up(greater(times(minus(big.NewRat(1, 1), k), b), times(minus(f, k), a))))
}

func (w *twin) rising(kind int, s api.Span) (float64, api.Span) {
	slope, ok := elem.Least(kind, s)
	w.failed = w.failed || !ok
	at := map[int]func(x float64) api.Span{api.KTanh: elem.Tanh, api.KSigmoid: elem.Sigmoid}[kind]
	k := oracle.Exact(slope)
	return slope, between(
		w.down(minus(oracle.Exact(at(s.Lo).Lo), times(k, oracle.Exact(s.Lo)))),
		w.up(minus(oracle.Exact(at(s.Hi).Hi), times(k, oracle.Exact(s.Hi)))))
}

func (w *twin) square(s api.Span) (float64, api.Span) {
	a, b := oracle.Exact(s.Lo), oracle.Exact(s.Hi)
	slope := w.near(plus(a, b))
	k := oracle.Exact(slope)
	return slope, between(
		w.down(times(big.NewRat(-1, 4), times(k, k))),
		w.up(greater(minus(times(a, a), times(k, a)), minus(times(b, b), times(k, b)))))
}

// wantBend is what Bend tells of any layer and any span.
func wantBend(l api.Layer, s api.Span) (slope float64, rest api.Span, ok bool) {
	if s.Bad || !isNumber(s.Lo) || !isNumber(s.Hi) || s.Lo > s.Hi {
		return 0, api.Span{}, false
	}
	var w twin
	switch l.Kind {
	case api.KRelu:
		slope, rest = w.relu(s)
	case api.KLeaky:
		if !isNumber(l.A) || l.A < 0 || l.A > 1 {
			return 0, api.Span{}, false
		}
		slope, rest = w.leaky(l.A, s)
	case api.KTanh, api.KSigmoid:
		slope, rest = w.rising(l.Kind, s)
	case api.KSquare:
		slope, rest = w.square(s)
	default:
		return 0, api.Span{}, false
	}
	if w.failed {
		return 0, api.Span{}, false
	}
	return slope, rest, true
}

// A cell is what becomes of one coordinate.
type cell struct {
	c, r float64
	g    []float64
}

// line is a coordinate's cell behind a function of it.
func (w *twin) line(z api.Zono, i int, slope float64, rest api.Span) cell {
	k, lo, hi := oracle.Exact(slope), oracle.Exact(rest.Lo), oracle.Exact(rest.Hi)
	v := plus(times(k, oracle.Exact(z.C[i])), half(plus(lo, hi)))
	is := cell{c: w.near(v)}
	box := plus(half(minus(hi, lo)), size(minus(v, oracle.Exact(is.c))))
	for _, g := range z.G {
		v := times(k, oracle.Exact(g[i]))
		a := w.near(v)
		is.g = append(is.g, a)
		box = plus(box, size(minus(v, oracle.Exact(a))))
	}
	is.r = w.up(plus(box, times(size(k), oracle.Exact(z.R[i]))))
	return is
}

// pooled is the cell of the greatest one of some coordinates.
func (w *twin) pooled(z api.Zono, s []api.Span, places []int) cell {
	for _, k := range places {
		first := true
		for _, j := range places {
			first = first && (j == k || s[k].Lo >= s[j].Hi)
		}
		if first {
			is := cell{c: w.near(oracle.Exact(z.C[k])), r: w.near(oracle.Exact(z.R[k]))}
			for _, g := range z.G {
				is.g = append(is.g, w.near(oracle.Exact(g[k])))
			}
			return is
		}
	}
	lo, hi := oracle.Exact(s[places[0]].Lo), oracle.Exact(s[places[0]].Hi)
	for _, k := range places {
		lo, hi = greater(lo, oracle.Exact(s[k].Lo)), greater(hi, oracle.Exact(s[k].Hi))
	}
	middle := half(plus(lo, hi))
	is := cell{c: w.near(middle), g: make([]float64, len(z.G))}
	is.r = w.up(plus(half(minus(hi, lo)), size(minus(middle, oracle.Exact(is.c)))))
	return is
}

// windowOf are the places of a window that lie within, by the table of DOC.md, Networks.
func windowOf(s sample, at [3]int) []int {
	var places []int
	for j, c := range oracle.Coordinates(s.in) {
		p, q := c[1]-(at[1]*s.l.SH-s.l.PH), c[2]-(at[2]*s.l.SW-s.l.PW)
		if c[0] == at[0] && p >= 0 && p < s.l.KH && q >= 0 && q < s.l.KW {
			places = append(places, j)
		}
	}
	return places
}

// isOne tells whether z is a zonotope of n coordinates, and no bad one.
func isOne(z api.Zono, n int) bool { return zono.Check(z) == api.OK && !z.Bad && z.N == n }

// wantStep is the step of a layer that Step takes.
func wantStep(z api.Zono, s sample) api.Zono {
	bad := samples.BadZono(s.width())
	if !isOne(z, s.size()) {
		return bad
	}
	spans := zono.Bounds(z)
	for _, one := range spans {
		if one.Bad {
			return bad
		}
	}
	var w twin
	y, columns := api.Zono{N: s.width()}, make([][]float64, len(z.Ids))
	for i, at := range oracle.Coordinates(s.told()) {
		var is cell
		if s.l.Kind == api.KMax {
			is = w.pooled(z, spans, windowOf(s, at))
		} else {
			slope, rest, ok := wantBend(s.l, spans[i])
			if !ok {
				return bad
			}
			is = w.line(z, i, slope, rest)
		}
		y.C, y.R = append(y.C, is.c), append(y.R, is.r)
		for k, a := range is.g {
			columns[k] = append(columns[k], a)
		}
	}
	if w.failed {
		return bad
	}
	for k, column := range columns {
		for _, a := range column {
			if a != 0 {
				y.Ids, y.G = append(y.Ids, z.Ids[k]), append(y.G, column)
				break
			}
		}
	}
	return y
}

// anyLayer is a layer of any kind, or of none; A is often not what it must be.
func anyLayer(m *oracle.Mixer) api.Layer {
	l := api.Layer{Kind: curves()[m.Below(5)], A: someSlope(m)}
	switch m.Below(16) {
	case 0:
		l.Kind = m.Below(16) - 1
	case 1:
		l.A = noSlopes()[m.Below(len(noSlopes()))]
	}
	return l
}

// 13.1: the same answers, and each kind of answer comes up.
func TestTwinOfBends(t *testing.T) {
	t.Parallel()
	var m oracle.Mixer
	seen := oracle.Tally{}
	for range 12000 {
		l, s := anyLayer(&m), someSpan(&m)
		if m.Below(30) == 0 {
			s = samples.NoSpans()[m.Below(len(samples.NoSpans()))]
		}
		slope, rest, ok := wantBend(l, s)
		if !ok {
			expectNoBend(t, l, s)
			seen.Note("not ok", true)
			seen.Note("no number", !s.Bad && l.Kind == api.KSquare)
			continue
		}
		expectBend(t, l, s, slope, rest)
		if t.Failed() {
			return
		}
		name := fmt.Sprintf("kind %d ", l.Kind)
		seen.Note(name+"below", s.Hi <= 0)
		seen.Note(name+"above", s.Lo >= 0 && s.Hi > 0)
		seen.Note(name+"across", s.Lo < 0 && s.Hi > 0)
		seen.Note(name+"at a point", s.Lo == s.Hi)
	}
	seen.Expect(t, 100, "not ok", "no number")
	for _, k := range curves() {
		for _, where := range []string{"below", "above", "across", "at a point"} {
			seen.Expect(t, 60, fmt.Sprintf("kind %d %s", k, where))
		}
	}
}

// 13.1: every two numbers at which something changes.
func TestTwinOfBendsAtEdges(t *testing.T) {
	t.Parallel()
	all := oracle.Edges()
	for i, a := range all {
		for j, b := range all {
			s := between(a, b)
			for _, l := range []api.Layer{samples.Relu(), kind(api.KSquare), samples.Leaky(0.1), samples.Leaky([]float64{0, 0.5, oracle.Least, 1}[(i+j)%4])} {
				slope, rest, ok := wantBend(l, s)
				if ok {
					expectBend(t, l, s, slope, rest)
				} else {
					expectNoBend(t, l, s)
				}
			}
			if t.Failed() {
				return
			}
		}
	}
}

// someBox tells whether z has a box.
func someBox(z api.Zono) bool {
	for _, r := range z.R {
		if r > 0 {
			return true
		}
	}
	return false
}

// 13.2: likewise, of each kind.
func TestTwinOfSteps(t *testing.T) {
	t.Parallel()
	var m oracle.Mixer
	seen := oracle.Tally{}
	for range 2500 {
		s := someLayer(&m)
		z := someZono(&m, s.size())
		if m.Below(12) == 0 {
			z = samples.AnyZono(&m)
		}
		want := wantStep(z, s)
		expectStep(t, z, s.l, s.in, want)
		if t.Failed() {
			return
		}
		is := isOne(z, s.size())
		seen.Note("no zonotope, or of other coordinates", !is)
		seen.Note("no number", is && want.Bad)
		good := is && !want.Bad
		seen.Note("fewer columns", good && len(want.Ids) < len(z.Ids))
		seen.Note("as many columns", good && len(want.Ids) == len(z.Ids) && len(z.Ids) > 0)
		seen.Note("no columns ahead", good && len(z.Ids) == 0)
		seen.Note("a box of its own", good && !someBox(z) && someBox(want))
		seen.Note("no box", good && !someBox(z) && !someBox(want))
		seen.Note(fmt.Sprintf("kind %d", s.l.Kind), good)
		seen.Note("windows", good && s.l.Kind == api.KMax && s.l.KH*s.l.KW > 1)
		seen.Note("padding", good && s.l.Kind == api.KMax && s.l.PH+s.l.PW > 0)
	}
	seen.Expect(t, 60, "no zonotope, or of other coordinates", "no number", "fewer columns", "as many columns", "no columns ahead", "a box of its own", "no box", "windows", "padding")
	for _, k := range bends() {
		seen.Expect(t, 100, fmt.Sprintf("kind %d", k))
	}
}

// 13.2: every layer of a network that may be, of each kind, whatever it asks for.
func TestTwinOfOrdinaryLayers(t *testing.T) {
	var m oracle.Mixer
	if len(ordinary()) != 6 {
		t.Fatalf("%d kinds", len(ordinary()))
	}
	for _, s := range ordinary() {
		for range 5 {
			z := someZono(&m, s.size())
			expectStep(t, z, s.l, s.in, wantStep(z, s))
		}
	}
}
