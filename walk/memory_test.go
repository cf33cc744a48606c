package walk

import (
	"slices"
	"testing"

	"ambit/api"
	"ambit/oracle"
	"ambit/samples"
)

// only is a network of one layer, so that samples can look at it.
func only(l api.Layer) api.Net { return api.Net{Layers: []api.Layer{l}} }

// mark is what stands behind lists of spans, and what is written over them.
func mark() api.Span { return api.Span{Lo: 7, Hi: 77, Bad: true} }

func roomy(v []api.Span) []api.Span { return samples.Roomy(v, mark()) }

func whole(v []api.Span) []api.Span { return slices.Clone(samples.Whole(v)) }

// expectNew calls twice, with all that the first call told written over in between: both must tell the same, and what was handed in (seen by stays) must stay; nor does the second answer change when what was handed in is written over.
func expectNew(t *testing.T, what any, tell func() []api.Span, stays func() bool, spoil func()) {
	t.Helper()
	got := tell()
	want := whole(got)
	samples.Scribble(got, mark())
	if !stays() {
		t.Errorf("%s: what was given is changed, or a part of the answer", text(what))
	}
	again := tell()
	spoil()
	if !samples.SameSpans(whole(again), want) {
		t.Errorf("%s: what was given is kept, or an answer was", text(what))
	}
}

// 15.7: numbers stay, with the room behind them.
func TestNumbersStay(t *testing.T) {
	x := samples.Roomy(numbers(1, oracle.MinusZero(), oracle.NoNumbers()[0], -2), 9)
	before := slices.Clone(samples.Whole(x))
	expectNew(t, "Points",
		func() []api.Span { return Points(x) },
		func() bool { return samples.SameNumbers(samples.Whole(x), before) },
		func() { samples.Scribble(x, 5) })
}

// memoryCalls are calls of each kind, some of whose answers have the same spans as what is handed in, bad ones among them; and some that Step refuses.
func memoryCalls() []call {
	all := ordinary()
	for _, v := range [][]api.Span{spans(1, 2, 3, 4, 5, 6), join(spans(1, 2), bads(1), spans(oracle.MinusZero(), 6)), {samples.Between(2, 1), mark(), samples.BadSpan()}} {
		for _, l := range []api.Layer{samples.Relu(), samples.Leaky(1), pool(1, 1, 0), samples.Add(0), scale(numbers(1), numbers(0)), mean(1, 1, 1, 0), kind(api.KSquare), kind(api.KTanh), dense(1, 2), kind(99)} {
			all = append(all, call{l, samples.Line(3), v, points(0, 0, 0)}, call{l, samples.Line(3), v, v[:2]}, call{l, samples.Line(2), v, v})
		}
	}
	return all
}

// 15.7: a layer and spans stay, with the room behind them, and the answer is new memory.
func TestArgumentsOfStepStay(t *testing.T) {
	for _, c := range memoryCalls() {
		l, v, earlier := samples.RoomyLayer(c.l), roomy(c.v), roomy(c.earlier)
		layer, ahead, added := samples.WholeNet(only(l)), whole(v), whole(earlier)
		expectNew(t, c,
			func() []api.Span { return Step(l, c.in, v, earlier) },
			func() bool {
				return samples.SameNet(samples.WholeNet(only(l)), layer) && samples.SameSpans(whole(v), ahead) && samples.SameSpans(whole(earlier), added)
			},
			func() {
				samples.Scribble(v, mark())
				samples.Scribble(earlier, mark())
				samples.Scribble(l.W, -5)
				samples.Scribble(l.B, -6)
			})
		// Room behind lists tells nothing.
		call{samples.RoomyLayer(c.l), c.in, roomy(c.v), roomy(c.earlier)}.expect(t, c.answer())
	}
}

// 15.7: one list handed in twice is not written into, nor is it the answer.
func TestOneListTwice(t *testing.T) {
	v := roomy(spans(1, 2, -3, 4))
	before := whole(v)
	got := Step(samples.Add(1), samples.Line(2), v, v)
	samples.Scribble(got, mark())
	if !samples.SameSpans(whole(v), before) {
		t.Errorf("%s is now %s", text(before), text(whole(v)))
	}
	call{samples.Add(1), samples.Line(2), v, v}.expect(t, spans(2, 4, -6, 8))
}

// 15.7: a network and spans stay: with a layer of each kind, without layers, and where the last layer changes nothing, or is refused.
func TestArgumentsOfEvalStay(t *testing.T) {
	in := samples.Shape(2, 3, 4)
	for _, build := range []func() api.Net{
		samples.RoomyNet,
		func() api.Net { return api.Net{In: in, Layers: samples.Roomy([]api.Layer(nil), samples.Relu())} },
		func() api.Net { return netOf(in, samples.Leaky(1)) },
		func() api.Net { return netOf(in, samples.Windowed(api.KMax, 1, 1, 1, 1, 0, 0)) },
		func() api.Net { return netOf(in, samples.Relu(), samples.Add(0), samples.Add(1)) },
		func() api.Net { return netOf(in, samples.Relu(), kind(99)) },
		func() api.Net { return netOf(samples.Line(1), samples.Relu()) },
	} {
		for _, s := range []api.Span{samples.Between(1, 2), samples.Between(-1, 2), samples.BadSpan(), samples.Between(2, 1), samples.Between(oracle.MinusZero(), 0)} {
			n, v := build(), roomy(slices.Repeat([]api.Span{s}, 24))
			network, ahead := samples.WholeNet(n), whole(v)
			expectNew(t, n,
				func() []api.Span {
					told, _, _ := Eval(n, v)
					return told
				},
				func() bool {
					return samples.SameNet(samples.WholeNet(n), network) && samples.SameSpans(whole(v), ahead)
				},
				func() {
					samples.Scribble(v, mark())
					for _, l := range n.Layers {
						samples.Scribble(l.W, 5)
						samples.Scribble(l.B, 6)
					}
				})
		}
	}
}

// 15.7, rule 1: empty lists are as nil, and the room behind them tells nothing.
func TestRoomTurnsNothing(t *testing.T) {
	v := slices.Repeat(spans(-1, 2), 24)
	want, e, at := Eval(samples.Chain(), v)
	if e != api.OK {
		t.Fatal(e)
	}
	expectEval(t, samples.RoomyNet(), roomy(v), want, at)
	l := samples.Relu()
	l.W, l.B, l.Z, l.ZB = make([]float64, 0, 4), numbers(), []complex128{}, make([]complex128, 0, 2)
	expectStep(t, l, samples.Line(1), spans(-1, 2), spans(0, 2))
	call{samples.Add(0), samples.Line(1), make([]api.Span, 0, 1), points(1)}.expect(t, nil)
	call{samples.Add(0), samples.Line(1), points(1), make([]api.Span, 0, 1)}.expect(t, nil)
	expectNoEval(t, netOf(samples.Line(1)), make([]api.Span, 0, 1), api.ErrCount, 0)
	expectPoints(t, make([]float64, 0, 3), nil)
}
