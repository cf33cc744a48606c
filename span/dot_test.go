package span

import (
	"fmt"
	"math"
	"math/big"
	"slices"
	"testing"

	"ambit/api"
	"ambit/oracle"
)

// terms are numbers and spans, as many of each, of which some sums are at an edge, and some have little left.
func terms(m *oracle.Mixer, n int) ([]float64, []api.Span) {
	var w []float64
	var l []api.Span
	all, edges := spans(), append(oracle.Edges(), oracle.MinusZero())
	e := m.Below(1000) - 500
	for range n {
		switch m.Below(4) {
		case 0:
			w, l = append(w, edges[m.Below(len(edges))]), append(l, all[m.Below(len(all))])
		case 1:
			w, l = append(w, m.Number(e)), append(l, random(m, -e))
		case 2:
			w, l = append(w, float64(m.Below(7)-3)), append(l, of(float64(-m.Below(5)), float64(m.Below(5))))
		case 3:
			w, l = append(w, m.Number(-1074-e)), append(l, random(m, e))
		}
	}
	return w, l
}

// sums are the least sum and the greatest one.
func sums(w []float64, l []api.Span) (*big.Rat, *big.Rat) {
	least, greatest := new(big.Rat), new(big.Rat)
	for i, a := range w {
		x := new(big.Rat).Mul(oracle.Exact(a), oracle.Exact(l[i].Lo))
		y := new(big.Rat).Mul(oracle.Exact(a), oracle.Exact(l[i].Hi))
		if x.Cmp(y) > 0 {
			x, y = y, x
		}
		least.Add(least, x)
		greatest.Add(greatest, y)
	}
	return least, greatest
}

// 4.4, 4.8: one rounding for each end.
func TestDot(t *testing.T) {
	t.Parallel()
	var m oracle.Mixer
	goods := 0
	for i := range 1500 {
		w, l := terms(&m, i%8)
		got, want := Dot(w, l), wanted(sums(w, l))
		expect(t, fmt.Sprintf("Dot of %x and %v", w, l), got, want)
		if i%8 > 0 && !got.Bad {
			goods++
		}
	}
	if goods < 300 {
		t.Error("too few good ones:", goods)
	}
}

// 4.4: each product of one term, against Mul.
func TestDotOfOne(t *testing.T) {
	for _, s := range spans() {
		for _, a := range oracle.Edges() {
			expect(t, fmt.Sprintf("Dot of %x and %s", a, text(s)), Dot([]float64{a}, []api.Span{s}), Mul(Point(a), s))
		}
	}
}

// 4.4: what is lost, or beyond the greatest number, on the way of rounded sums is there all the same.
func TestDotOnce(t *testing.T) {
	const max, e = oracle.Max, oracle.Least
	for i, c := range []struct {
		w    []float64
		l    []api.Span
		want api.Span
	}{
		{[]float64{1, 1, -1}, []api.Span{of(0x1p60, 0x1p60), of(1, 2), of(0x1p60, 0x1p60)}, of(1, 2)},
		{[]float64{max, max, -max}, []api.Span{of(1, 1), of(1, 1), of(1, 1)}, of(max, max)},
		{[]float64{max, max}, []api.Span{of(max, max), of(-max, -max)}, of(0, 0)},
		{[]float64{0.5, 0.5}, []api.Span{of(e, e), of(e, e)}, of(e, e)},
		{[]float64{0.5, -0.5}, []api.Span{of(e, e), of(-e, e)}, of(0, e)},
		{[]float64{1, 1, 1}, []api.Span{of(1, 1), of(0x1p-53, 0x1p-53), of(0x1p-53, 0x1p-53)}, of(1+0x1p-52, 1+0x1p-52)},
		{[]float64{0.1, -0.1}, []api.Span{of(3, 3), of(3, 3)}, of(0, 0)},
		{[]float64{max, 1}, []api.Span{of(1, 1), of(0, e)}, none()},
		{[]float64{-max, 1}, []api.Span{of(1, 1), of(-e, 0)}, none()},
		{[]float64{-max, 1}, []api.Span{of(1, 1), of(0, e)}, of(-max, -max+0x1p971)},
		{[]float64{oracle.MinusZero(), -1}, []api.Span{of(-max, max), of(0, 0)}, of(0, 0)},
	} {
		expect(t, fmt.Sprint("sum ", i), Dot(c.w, c.l), c.want)
	}
}

// 4.4
func TestDotOfNothing(t *testing.T) {
	for i, got := range []api.Span{Dot(nil, nil), Dot([]float64{}, nil), Dot(nil, []api.Span{}), Dot([]float64{}, []api.Span{})} {
		expect(t, fmt.Sprint("nothing, way ", i), got, of(0, 0))
	}
}

// 4.4: lists of unlike lengths, what is no number, what is bad, beside noughts too.
func TestDotRefuses(t *testing.T) {
	s := of(1, 2)
	for i, got := range []api.Span{
		Dot([]float64{1}, nil), Dot(nil, []api.Span{s}), Dot([]float64{0}, []api.Span{s, s}), Dot([]float64{0, 0}, []api.Span{of(0, 0)}),
		Dot([]float64{1, 2, 3}, []api.Span{s, s}),
	} {
		expect(t, fmt.Sprint("unlike lengths, way ", i), got, none())
	}
	for _, a := range oracle.NoNumbers() {
		for _, x := range []api.Span{s, of(0, 0), of(-1, 1)} {
			expect(t, fmt.Sprint("weight ", a), Dot([]float64{a}, []api.Span{x}), none())
			expect(t, fmt.Sprint("weight ", a), Dot([]float64{1, a, 1}, []api.Span{s, x, s}), none())
			expect(t, fmt.Sprint("weights ", a, -a), Dot([]float64{a, -a}, []api.Span{x, x}), none())
		}
	}
	for _, x := range bads() {
		for _, a := range []float64{0, oracle.MinusZero(), 1, -1} {
			expect(t, "Dot with "+text(x), Dot([]float64{a}, []api.Span{x}), none())
			expect(t, "Dot with "+text(x), Dot([]float64{1, 1, a}, []api.Span{s, s, x}), none())
		}
	}
}

// 4.11: the lists that are handed in, and the room behind them, stay as they are.
func TestListsStay(t *testing.T) {
	minus := oracle.MinusZero()
	w := []float64{1, minus, -3, math.Inf(1), 5, math.NaN()}
	l := []api.Span{of(1, 2), of(minus, 0), of(-3, minus), of(2, 1), none(), of(math.NaN(), 0)}
	was, wasToo := slices.Clone(w), slices.Clone(l)
	for n := range w {
		for m := range l {
			Dot(w[:n], l[:m])
		}
	}
	if !slices.EqualFunc(w, was, oracle.Same) || !slices.EqualFunc(l, wasToo, same) {
		t.Error("lists changed to", w, l)
	}
}
