package span

import (
	"math"
	"math/big"
	"testing"

	"ambit/api"
	"ambit/oracle"
)

// 4.7: for reals out of both spans.
func TestHolds(t *testing.T) {
	for _, c := range calls() {
		t.Run(c.name, func(t *testing.T) {
			t.Parallel()
			for i, p := range pairs() {
				got := c.span(p.a, p.b)
				if i%3 != 0 || got.Bad {
					continue
				}
				for _, x := range inner(p.a) {
					for _, y := range inner(p.b) {
						if !between(c.real(x, y), got) {
							t.Errorf("%s is %s, and not at %v and %v", c.at(p.a, p.b), text(got), x, y)
						}
					}
				}
			}
		})
	}
}

// 4.7: of Hull x and y themselves, of Meet what is x and y at once.
func TestHullAndMeetHold(t *testing.T) {
	for i, p := range pairs() {
		if i%3 != 0 {
			continue
		}
		hull, meet := Hull(p.a, p.b), Meet(p.a, p.b)
		for _, v := range append(inner(p.a), inner(p.b)...) {
			if hull.Bad || !between(v, hull) {
				t.Errorf("Hull of %s and %s is %s", text(p.a), text(p.b), text(hull))
			}
			if between(v, p.a) && between(v, p.b) && (meet.Bad || !between(v, meet)) {
				t.Errorf("Meet of %s and %s is %s", text(p.a), text(p.b), text(meet))
			}
		}
	}
}

// 4.7
func TestDotHolds(t *testing.T) {
	var m oracle.Mixer
	for i := range 400 {
		w, l := terms(&m, i%6)
		got := Dot(w, l)
		for range 10 {
			sum := new(big.Rat)
			for j, a := range w {
				reals := inner(l[j])
				x := reals[m.Below(len(reals))]
				sum.Add(sum, new(big.Rat).Mul(oracle.Exact(a), x))
			}
			if !got.Bad && !between(sum, got) {
				t.Errorf("Dot of %x and %v is %s", w, l, text(got))
			}
		}
	}
}

// 4.8: each end is down or up of what some x and y make, by the calls alone: of points.
func TestEndsAreResults(t *testing.T) {
	for _, c := range calls() {
		for _, p := range pairs() {
			got := c.span(p.a, p.b)
			if got.Bad {
				continue
			}
			lo, hi := false, false
			for _, x := range []float64{p.a.Lo, p.a.Hi, 0} {
				for _, y := range []float64{p.b.Lo, p.b.Hi, 0} {
					r := c.span(Point(x), Point(y))
					if !Has(p.a, x) || !Has(p.b, y) || r.Bad {
						continue
					}
					lo = lo || r.Lo == got.Lo
					hi = hi || r.Hi == got.Hi
				}
			}
			if !lo || !hi {
				t.Errorf("%s is %s", c.at(p.a, p.b), text(got))
			}
		}
	}
}

// within holds what two calls answered, of spans inside others and of those, to lying inside.
func within(t *testing.T, name string, inner, outer api.Span, mayBeBad bool) {
	t.Helper()
	if outer.Bad || inner.Bad && mayBeBad {
		return
	}
	if !Inside(inner, outer) {
		t.Errorf("%s is %s, and of spans inside them %s", name, text(outer), text(inner))
	}
}

// 4.9
func TestInsideStays(t *testing.T) {
	var m oracle.Mixer
	l := append(calls(), call{name: "Hull", span: Hull}, call{name: "Meet", span: Meet})
	for _, p := range pairs() {
		a, b := part(&m, p.a), part(&m, p.b)
		for _, c := range l {
			within(t, c.at(p.a, p.b), c.span(a, b), c.span(p.a, p.b), c.name == "Meet")
		}
	}
	for i := range 2000 {
		w, l := terms(&m, i%6)
		parts := make([]api.Span, len(l))
		for j := range l {
			parts[j] = part(&m, l[j])
		}
		within(t, "Dot", Dot(w, parts), Dot(w, l), false)
	}
}

// 4.10
func TestMiddleAndWidth(t *testing.T) {
	var m oracle.Mixer
	l := spans()
	for _, s := range l {
		l = append(l, part(&m, s), Point(s.Lo), of(s.Lo, oracle.NumberAt(min(place(s.Lo)+1, oracle.Ends()))))
	}
	for _, s := range l {
		middle, ok := Middle(s)
		if !ok || !Has(s, middle) {
			t.Errorf("Middle of %s is %x, %v", text(s), middle, ok)
		}
		width, ok := Width(s)
		if point := s.Lo == s.Hi; (ok && width == 0) != point || width < 0 {
			t.Errorf("Width of %s is %x, %v", text(s), width, ok)
		}
	}
}

// formed tells whether an answer is one: good without a nought with a sign, or bad and nothing else.
func formed(s api.Span) bool {
	if s.Bad {
		return same(s, none())
	}
	minus := oracle.MinusZero()
	return s.Lo <= s.Hi && s.Lo >= -oracle.Max && s.Hi <= oracle.Max && !oracle.Same(s.Lo, minus) && !oracle.Same(s.Hi, minus)
}

// anything is a span of whatever bits.
func anything(m *oracle.Mixer) api.Span {
	given := append(append(oracle.Edges(), oracle.NoNumbers()...), oracle.MinusZero())
	pick := func() float64 {
		switch m.Below(3) {
		case 0:
			return given[m.Below(len(given))]
		case 1:
			return api.Float(m.Word())
		}
		return m.Number(m.Below(1800) - 900)
	}
	s := api.Span{Lo: pick(), Hi: pick(), Bad: m.Below(16) == 0}
	if m.Below(2) == 0 && s.Lo > s.Hi {
		s.Lo, s.Hi = s.Hi, s.Lo
	}
	return s
}

// 4.11: whatever the calls are given, they end, and answer what may be answered, twice the same.
func TestAnything(t *testing.T) {
	var m oracle.Mixer
	l := append(calls(), call{name: "Hull", span: Hull}, call{name: "Meet", span: Meet},
		call{name: "Make", span: func(a, b api.Span) api.Span { return Make(a.Lo, b.Hi) }},
		call{name: "Point", span: func(a, _ api.Span) api.Span { return Point(a.Lo) }},
		call{name: "Dot", span: func(a, b api.Span) api.Span { return Dot([]float64{a.Lo, b.Lo}, []api.Span{a, b}) }},
		call{name: "Scale", span: func(a, b api.Span) api.Span { return Scale(a, int(api.Bits(b.Lo))) }},
	)
	for range 20000 {
		a, b := anything(&m), anything(&m)
		for _, c := range l {
			got, again := c.span(a, b), c.span(a, b)
			if !formed(got) || !same(got, again) {
				t.Fatalf("%s: %s, then %s", c.at(a, b), text(got), text(again))
			}
		}
		for _, ask := range []func(s api.Span) (float64, bool){Width, Middle} {
			got, ok := ask(a)
			if !ok && !oracle.Same(got, 0) || math.IsNaN(got) || math.IsInf(got, 0) || oracle.Same(got, oracle.MinusZero()) {
				t.Fatalf("%x, %v is told of %s", got, ok, text(a))
			}
		}
		if Has(a, b.Lo) && !Inside(Point(b.Lo), a) || Inside(a, b) && !Has(b, a.Lo) {
			t.Fatalf("Has and Inside of %s and %s", text(a), text(b))
		}
	}
}

// 4.11: the sign of a nought among the arguments turns nothing.
func TestSignsOfNoughts(t *testing.T) {
	minus := oracle.MinusZero()
	l := append(calls(), call{name: "Hull", span: Hull}, call{name: "Meet", span: Meet})
	for _, p := range [][2]api.Span{
		{of(0, 0), of(minus, minus)}, {of(0, 0), of(minus, 0)}, {of(0, 0), of(0, minus)}, {of(0, 3), of(minus, 3)}, {of(-3, 0), of(-3, minus)},
	} {
		for _, s := range spans() {
			for _, c := range l {
				expect(t, c.at(p[1], s), c.span(p[1], s), c.span(p[0], s))
				expect(t, c.at(s, p[1]), c.span(s, p[1]), c.span(s, p[0]))
			}
			if Inside(p[0], s) != Inside(p[1], s) || Inside(s, p[0]) != Inside(s, p[1]) {
				t.Errorf("Inside of %s and noughts", text(s))
			}
		}
	}
}
