package span

import (
	"fmt"
	"math"
	"math/big"
	"slices"
	"testing"

	"ambit/api"
	"ambit/oracle"
)

// of is a span as it is written, made by no call.
func of(lo, hi float64) api.Span { return api.Span{Lo: lo, Hi: hi} }

func none() api.Span { return api.Span{Bad: true} }

func same(a, b api.Span) bool {
	return oracle.Same(a.Lo, b.Lo) && oracle.Same(a.Hi, b.Hi) && a.Bad == b.Bad
}

func text(s api.Span) string {
	if s.Bad {
		return fmt.Sprintf("bad (%x, %x)", s.Lo, s.Hi)
	}
	return fmt.Sprintf("[%x, %x]", s.Lo, s.Hi)
}

func expect(t *testing.T, name string, got, want api.Span) {
	t.Helper()
	if !same(got, want) {
		t.Errorf("%s: %s, not %s", name, text(got), text(want))
	}
}

func expectNumber(t *testing.T, name string, got float64, ok bool, want float64, is bool) {
	t.Helper()
	if ok != is || !oracle.Same(got, want) {
		t.Errorf("%s: %x %v, not %x %v", name, got, ok, want, is)
	}
}

// wanted is the span of the reals from p to q, by the words of the chapter.
func wanted(p, q *big.Rat) api.Span {
	lo, hi := oracle.Roundings(p), oracle.Roundings(q)
	if !lo.Is[api.Down] || !hi.Is[api.Up] {
		return none()
	}
	return of(lo.Number[api.Down], hi.Number[api.Up])
}

// between tells whether a real lies in a good span.
func between(v *big.Rat, s api.Span) bool {
	return oracle.Exact(s.Lo).Cmp(v) <= 0 && v.Cmp(oracle.Exact(s.Hi)) <= 0
}

// bads are spans that are bad, each in another way.
func bads() []api.Span {
	l := []api.Span{
		none(), {Lo: 1, Hi: 2, Bad: true}, {Lo: 2, Hi: 1, Bad: true}, {Lo: math.NaN(), Hi: math.Inf(1), Bad: true},
		of(2, 1), of(oracle.Least, 0), of(0, -oracle.Least), of(oracle.Max, -oracle.Max), of(1+0x1p-52, 1),
		of(math.Inf(-1), math.Inf(1)), of(math.Inf(1), math.Inf(-1)),
	}
	for _, a := range oracle.NoNumbers() {
		l = append(l, of(a, 1), of(-1, a), of(a, a))
	}
	return l
}

// place is where a number stands in the row of all numbers.
func place(a float64) int {
	if a < 0 {
		return -int(api.Bits(-a))
	}
	return int(api.Bits(math.Abs(a)))
}

// spans are good ones: points, between neighbours among the edges, about 0, beside it, and anything else.
func spans() []api.Span {
	minus := oracle.MinusZero()
	l := []api.Span{of(minus, minus), of(minus, 0), of(0, minus), of(minus, 1), of(-1, minus), of(-oracle.Max, oracle.Max), of(-3, 2), of(-2, 3)}
	edges := oracle.Edges()
	slices.Sort(edges)
	for i, a := range edges {
		l = append(l, of(a, a))
		if i > 0 {
			l = append(l, of(edges[i-1], a))
		}
	}
	for _, a := range oracle.Heights() {
		l = append(l, of(-a, a), of(0, a), of(-a, 0))
	}
	var m oracle.Mixer
	for range 150 {
		a, b := edges[m.Below(len(edges))], edges[m.Below(len(edges))]
		l = append(l, of(min(a, b), max(a, b)))
		l = append(l, random(&m, m.Below(2000)-1000))
	}
	return l
}

// random is a span of two numbers of about the same size.
func random(m *oracle.Mixer, exponent int) api.Span {
	a, b := m.Number(exponent), m.Number(exponent)
	return of(min(a, b), max(a, b))
}

// A pair is two spans that are handed in together.
type pair struct{ a, b api.Span }

// pairs are pairs of good spans, many of them with results at an edge.
func pairs() []pair {
	var m oracle.Mixer
	var l []pair
	all := spans()
	for _, a := range all {
		for range 4 {
			l = append(l, pair{a, all[m.Below(len(all))]})
		}
	}
	for range 60 {
		e := m.Below(2000) - 1000
		for _, f := range []int{e, e - m.Below(60), -e, -1074 - e, -1023 - e, 1023 - e, 1074 + e, 1022 + e, e - 1023} {
			l = append(l, pair{random(&m, e), random(&m, f)})
		}
	}
	return l
}

// part is a span that lies inside a good one.
func part(m *oracle.Mixer, s api.Span) api.Span {
	from, to := place(s.Lo), place(s.Hi)
	pick := func() int {
		switch m.Below(4) {
		case 0:
			return from
		case 1:
			return to
		}
		// How far it is may leave an int, but not a word without a sign.
		return from + int(m.Word()%(uint64(to-from)+1))
	}
	p, q := pick(), pick()
	return of(oracle.NumberAt(min(p, q)), oracle.NumberAt(max(p, q)))
}

// inner are reals that lie in a good span: its ends, 0, if it is held, and some between.
func inner(s api.Span) []*big.Rat {
	lo, hi := oracle.Exact(s.Lo), oracle.Exact(s.Hi)
	l := []*big.Rat{lo, hi}
	if lo.Sign() < 0 && hi.Sign() > 0 {
		l = append(l, new(big.Rat))
	}
	width := new(big.Rat).Sub(hi, lo)
	for _, t := range []*big.Rat{big.NewRat(1, 3), big.NewRat(999, 1000)} {
		v := new(big.Rat).Mul(width, t)
		l = append(l, v.Add(v, lo))
	}
	return l
}

// corners are the reals of a good span among which every function here is least and greatest: its ends, and 0, if it is held.
func corners(s api.Span) []*big.Rat {
	l := inner(s)
	return l[:len(l)-2]
}
