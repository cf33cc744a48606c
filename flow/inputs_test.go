package flow

import (
	"fmt"
	"slices"
	"testing"

	"ambit/api"
	"ambit/oracle"
	"ambit/samples"
)

func numbers(l ...float64) []float64 { return l }

func ids(l ...int) []int { return l }

func lists(l ...[]float64) [][]float64 { return l }

func zonos(l ...api.Zono) []api.Zono { return l }

// of is a zonotope as it is written, made by no call.
func of(c []float64, ids []int, g [][]float64, r []float64) api.Zono {
	return samples.Zonotope(c, ids, g, r)
}

// plain is one without a box; its columns have the Ids 0, 1, 2 and so on.
func plain(c []float64, g ...[]float64) api.Zono {
	z := of(c, nil, g, make([]float64, len(c)))
	for id := range g {
		z.Ids = append(z.Ids, id)
	}
	return z
}

// bads are the bad ones of so many coordinates each.
func bads(widths ...int) []api.Zono {
	var all []api.Zono
	for _, n := range widths {
		all = append(all, samples.BadZono(n))
	}
	return all
}

// kind is a layer that has nothing but its kind.
func kind(k int) api.Layer { return api.Layer{Kind: k} }

// dense is a KDense with these numbers.
func dense(w, b []float64) api.Layer {
	return api.Layer{Kind: api.KDense, Out: len(b), W: w, B: b}
}

// scale is a KScale of one channel.
func scale(w, b float64) api.Layer {
	return api.Layer{Kind: api.KScale, W: numbers(w), B: numbers(b)}
}

// netOf is a network of these layers over so many coordinates.
func netOf(width int, layers ...api.Layer) api.Net {
	return api.Net{In: samples.Line(width), Layers: layers}
}

// region is one of levels and places, one behind the other.
func region(pairs ...int) api.Region { return samples.Region(pairs...) }

// asked is a question with these numbers to a network.
func asked(n api.Net, k int, c []float64, g ...[]float64) api.Prop {
	_, out := samples.Widths(n)
	return api.Prop{C: c, G: g, Target: -1, Claims: samples.Columns(1, out+1), K: k, Looks: 1}
}

// text is what something looks like, as far as one may want to read.
func text(what any) string {
	s := fmt.Sprintf("%+v", what)
	return s[:min(len(s), 1000)]
}

// A call is what Start is given, and Push beside its workers.
type call struct {
	n api.Net
	p api.Prop
	r api.Region
}

// bare is a call without layers.
func bare(c []float64, g [][]float64, r api.Region) call {
	n := netOf(len(c))
	return call{n, asked(n, 2, c, g...), r}
}

// first is the one of the chapter's examples.
func first() call {
	n := netOf(2, dense(numbers(1, 1, 1, -1), numbers(0, 0)))
	return call{n, api.Prop{C: numbers(0.5, 0.25), G: lists(numbers(1, 0)), K: 2, Looks: 1}, region(0, 0)}
}

// crews are numbers of workers: the least, the greatest, and some between.
func crews() []int { return []int{1, 2, 3, 16} }

func (c call) expectStart(t *testing.T, want api.Zono) {
	t.Helper()
	if got, e := Start(c.n, c.p, c.r); e != api.OK || !samples.SameZono(got, want) {
		t.Errorf("Start(%s): %s %v, not %s", text(c), text(got), e, text(want))
	}
}

// sameTrace tells whether two traces are alike, bit for bit; nil and empty lists are.
func sameTrace(a, b api.Trace) bool {
	return a.Next == b.Next && a.Bad == b.Bad && slices.EqualFunc(a.Z, b.Z, samples.SameZono)
}

// expectPush holds Push to a trace, whatever crew there is.
func (c call) expectPush(t *testing.T, z []api.Zono, next, bad int) {
	t.Helper()
	want := api.Trace{Z: z, Next: next, Bad: bad}
	for _, workers := range crews() {
		if got, e := Push(c.n, c.p, c.r, workers); e != api.OK || !sameTrace(got, want) {
			t.Errorf("Push(%s, %d): %s %v, not %s", text(c), workers, text(got), e, text(want))
		}
	}
}

// expectNone holds Start to an error alone, and Push too, whatever crew there is, also one that may not be.
func (c call) expectNone(t *testing.T, want api.Errno) {
	t.Helper()
	if got, e := Start(c.n, c.p, c.r); e != want || !samples.SameZono(got, api.Zono{}) {
		t.Errorf("Start(%s): %s beside %v, not %v alone", text(c), text(got), e, want)
	}
	for _, workers := range []int{1, 16, 0, 17} {
		c.expectNoPush(t, workers, want)
	}
}

func (c call) expectNoPush(t *testing.T, workers int, want api.Errno) {
	t.Helper()
	if got, e := Push(c.n, c.p, c.r, workers); e != want || !sameTrace(got, api.Trace{}) {
		t.Errorf("Push(%s, %d): %s beside %v, not %v alone", text(c), workers, text(got), e, want)
	}
}

// trace is what Push tells of a call that may be.
func (c call) trace(t *testing.T) api.Trace {
	t.Helper()
	x, e := Push(c.n, c.p, c.r, 2)
	if e != api.OK {
		t.Fatalf("Push(%s): %v", text(c), e)
	}
	return x
}

// someCall is one that may be, with a network of some kinds, at least so many layers of them.
func someCall(m *oracle.Mixer, kinds []int, least int) call {
	n, p, r := samples.AskedOfKinds(m, kinds, least)
	return call{n, p, r}
}
