package margin

import (
	"fmt"
	"math/big"
	"slices"
	"testing"

	"ambit/api"
	"ambit/oracle"
	"ambit/samples"
)

const (
	most  = oracle.Max
	least = oracle.Least
)

func numbers(l ...float64) []float64 { return l }

func ids(l ...int) []int { return l }

func lists(l ...[]float64) [][]float64 { return l }

func signs(l ...int) []int { return l }

func region(pairs ...int) api.Region { return samples.Region(pairs...) }

// of is a zonotope as it is written, made by no call.
func of(c []float64, ids []int, g [][]float64, r []float64) api.Zono {
	return samples.Zonotope(c, ids, g, r)
}

// pointed is one without columns and box.
func pointed(c ...float64) api.Zono { return of(c, nil, nil, make([]float64, len(c))) }

// kind is a layer that has nothing but its kind.
func kind(k int) api.Layer { return api.Layer{Kind: k} }

// dense is a KDense with these numbers.
func dense(w, b []float64) api.Layer {
	return api.Layer{Kind: api.KDense, Out: len(b), W: w, B: b}
}

// scale is a KScale of one channel.
func scale(w, b float64) api.Layer {
	return api.Layer{Kind: api.KScale, W: numbers(w), B: numbers(b)}
}

// mean is a KMean along a row.
func mean(a float64, kw, sw, pw int) api.Layer {
	l := samples.Windowed(api.KMean, 1, kw, 1, sw, 0, pw)
	l.A = a
	return l
}

// netOf is a network of these layers over so many coordinates.
func netOf(width int, layers ...api.Layer) api.Net {
	return api.Net{In: samples.Line(width), Layers: layers}
}

// asked is a question of further claims alone, with as many columns a coordinate as may be.
func asked(claims [][]float64, c []float64, g ...[]float64) api.Prop {
	return api.Prop{C: c, G: g, Target: -1, Claims: claims, K: api.MaxK, Looks: 1}
}

// first is the zonotope of the chapter's examples.
func first() api.Zono {
	return of(numbers(0.75, 0.25), ids(0), lists(numbers(1, 1)), numbers(0, 0))
}

// text is what something looks like, as far as one may want to read.
func text(what any) string {
	s := fmt.Sprintf("%+v", what)
	return s[:min(len(s), 1200)]
}

// A call is what Trial is given; Idle takes its first two.
type call struct {
	n     api.Net
	p     api.Prop
	r     api.Region
	signs []int
}

// example is the network and the question of the chapter's examples, at the whole cube's middle.
func example() call {
	n := netOf(2, dense(numbers(1, 1, 1, -1), numbers(0, 0)))
	return call{n, api.Prop{C: numbers(0.5, 0.25), G: lists(numbers(1, 0)), K: 2, Looks: 1}, region(0, 0), signs(0)}
}

// alone is a call at C itself: there are no symbols.
func alone(n api.Net, claims [][]float64, c ...float64) call {
	return call{n, asked(claims, c), api.Region{}, nil}
}

func expectClaims(t *testing.T, p api.Prop, m int, want ...[]float64) {
	t.Helper()
	if got, e := Claims(p, m); e != api.OK || !samples.SameLists(got, want) {
		t.Errorf("Claims(%s, %d): %s %v, not %s", text(p), m, text(got), e, text(want))
	}
}

func expectNoClaims(t *testing.T, p api.Prop, m int, want api.Errno) {
	t.Helper()
	if got, e := Claims(p, m); e != want || len(got) > 0 {
		t.Errorf("Claims(%s, %d): %s beside %v, not %v alone", text(p), m, text(got), e, want)
	}
}

func expectMargin(t *testing.T, z api.Zono, a []float64, want float64) {
	t.Helper()
	if got, ok := Margin(z, a); !ok || !oracle.Same(got, want) {
		t.Errorf("Margin(%s, %v): %v %v, not %v", text(z), a, got, ok, want)
	}
}

func expectNoMargin(t *testing.T, z api.Zono, a []float64) {
	t.Helper()
	if got, ok := Margin(z, a); ok || !oracle.Same(got, 0) {
		t.Errorf("Margin(%s, %v): %v %v, not none", text(z), a, got, ok)
	}
}

func expectWorst(t *testing.T, z api.Zono, claims [][]float64, at int, want float64) {
	t.Helper()
	if place, got, ok := Worst(z, claims); !ok || place != at || !oracle.Same(got, want) {
		t.Errorf("Worst(%s, %s): %d %v %v, not %d %v", text(z), text(claims), place, got, ok, at, want)
	}
}

func expectNoWorst(t *testing.T, z api.Zono, claims [][]float64) {
	t.Helper()
	if place, got, ok := Worst(z, claims); ok || place != 0 || !oracle.Same(got, 0) {
		t.Errorf("Worst(%s, %s): %d %v %v, not none", text(z), text(claims), place, got, ok)
	}
}

func expectSigns(t *testing.T, z api.Zono, a []float64, k int, want ...int) {
	t.Helper()
	if got := Signs(z, a, k); !slices.Equal(got, want) {
		t.Errorf("Signs(%s, %v, %d): %v, not %v", text(z), a, k, got, want)
	}
}

// expectNoSigns holds Signs to k noughts.
func expectNoSigns(t *testing.T, z api.Zono, a []float64, k int) {
	t.Helper()
	expectSigns(t, z, a, k, make([]int, k)...)
}

func (c call) expect(t *testing.T, claim int, gap float64) {
	t.Helper()
	if at, got, ok := Trial(c.n, c.p, c.r, c.signs); !ok || at != claim || !oracle.Same(got, gap) {
		t.Errorf("Trial(%s): %d %v %v, not %d %v", text(c), at, got, ok, claim, gap)
	}
}

func (c call) expectNone(t *testing.T) {
	t.Helper()
	if at, got, ok := Trial(c.n, c.p, c.r, c.signs); ok || at != 0 || !oracle.Same(got, 0) {
		t.Errorf("Trial(%s): %d %v %v, not none", text(c), at, got, ok)
	}
}

func expectIdle(t *testing.T, n api.Net, p api.Prop, want *big.Rat) {
	t.Helper()
	form, _ := oracle.Form(want)
	if got, ok := Idle(n, p); !ok || !oracle.SameDyad(got, form) {
		t.Errorf("Idle(%s, %s): %s %v, not %s", text(n), text(p), text(got), ok, text(form))
	}
}

func expectNoIdle(t *testing.T, n api.Net, p api.Prop) {
	t.Helper()
	if got, ok := Idle(n, p); ok || !oracle.SameDyad(got, api.Dyad{}) {
		t.Errorf("Idle(%s, %s): %s %v, not none", text(n), text(p), text(got), ok)
	}
}

// isNumber tells whether a float is a number.
func isNumber(a float64) bool { return a-a == 0 }

func someSigns(m *oracle.Mixer, k int) []int {
	l := make([]int, k)
	for s := range l {
		l[s] = m.Below(3) - 1
	}
	return l
}

// someCall is one that may be, with a network of some kinds, at least so many layers of them.
func someCall(m *oracle.Mixer, kinds []int, layers int) call {
	n, p, r := samples.AskedOfKinds(m, kinds, layers)
	return call{n, p, r, someSigns(m, len(p.G))}
}

// few is a call of at most so many layers, so that exact values stay short.
func few(m *oracle.Mixer, c call, layers int) call {
	if len(c.n.Layers) > layers {
		c.n.Layers = c.n.Layers[:layers]
		_, out := samples.Widths(c.n)
		c.p.Target, c.p.Claims = m.Below(out+1)-1, samples.MixedLists(m, 2, out+1)
	}
	return c
}

// kindName is a kind's name among what came up.
func kindName(k int) string { return fmt.Sprintf("kind %d", k) }
