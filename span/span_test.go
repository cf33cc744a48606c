package span

import (
	"fmt"
	"math/big"
	"testing"

	"ambit/api"
	"ambit/oracle"
)

// 4.1
func TestMake(t *testing.T) {
	numbers := append(oracle.Edges(), oracle.MinusZero())
	for _, lo := range numbers {
		for _, hi := range numbers {
			want := of(lo+0, hi+0) // + 0 takes a nought's sign
			if oracle.Exact(lo).Cmp(oracle.Exact(hi)) > 0 {
				want = none()
			}
			expect(t, fmt.Sprintf("Make(%x, %x)", lo, hi), Make(lo, hi), want)
		}
		expect(t, fmt.Sprintf("Point(%x)", lo), Point(lo), of(lo+0, lo+0))
	}
}

// 4.1: what is no number, beside whatever else.
func TestMakeRefuses(t *testing.T) {
	for _, a := range oracle.NoNumbers() {
		expect(t, fmt.Sprintf("Point(%x)", a), Point(a), none())
		for _, b := range append(oracle.Edges(), oracle.NoNumbers()...) {
			expect(t, fmt.Sprintf("Make(%x, %x)", a, b), Make(a, b), none())
			expect(t, fmt.Sprintf("Make(%x, %x)", b, a), Make(b, a), none())
		}
	}
}

// least and greatest are by value; of noughts of two signs +0 is told.
func least(x, y float64) float64 {
	if oracle.Exact(y).Cmp(oracle.Exact(x)) < 0 {
		return y + 0
	}
	return x + 0
}

func greatest(x, y float64) float64 { return 0 - least(-x, -y) }

// 4.3
func TestHull(t *testing.T) {
	for _, p := range pairs() {
		want := of(least(p.a.Lo, p.b.Lo), greatest(p.a.Hi, p.b.Hi))
		expect(t, "Hull of "+text(p.a)+" and "+text(p.b), Hull(p.a, p.b), want)
	}
}

// 4.3
func TestMeet(t *testing.T) {
	some, nothing := 0, 0
	for _, p := range pairs() {
		want := of(greatest(p.a.Lo, p.b.Lo), least(p.a.Hi, p.b.Hi))
		some++
		if want.Lo > want.Hi {
			want = none()
			nothing++
		}
		expect(t, "Meet of "+text(p.a)+" and "+text(p.b), Meet(p.a, p.b), want)
	}
	if nothing < 100 || some-nothing < 100 {
		t.Error("too few that meet, or that don't:", some, nothing)
	}
}

// 4.3: spans that touch at an end meet there, and those with nothing but a neighbour's step between don't.
func TestMeetAtAnEnd(t *testing.T) {
	for _, a := range oracle.Edges() {
		low, high := of(-oracle.Max, a), of(a, oracle.Max)
		expect(t, "Meet at an end", Meet(low, high), of(a+0, a+0))
		expect(t, "Meet at an end", Meet(high, low), of(a+0, a+0))
		if a < oracle.Max {
			beyond := of(oracle.NumberAt(place(a)+1), oracle.Max)
			expect(t, "Meet beside an end", Meet(low, beyond), none())
			expect(t, "Meet beside an end", Meet(beyond, low), none())
		}
	}
	minus := oracle.MinusZero()
	expect(t, "Meet in 0", Meet(of(-1, minus), of(0, 1)), of(0, 0))
	expect(t, "Meet in 0", Meet(of(-1, 0), of(minus, 1)), of(0, 0))
	expect(t, "Meet in 0", Meet(of(-1, minus), of(minus, 1)), of(0, 0))
}

// 4.5
func TestHas(t *testing.T) {
	numbers := append(oracle.Edges(), oracle.MinusZero())
	for _, s := range spans() {
		for _, a := range append(numbers, s.Lo, s.Hi) {
			if got, want := Has(s, a), between(oracle.Exact(a), s); got != want {
				t.Errorf("Has(%s, %x): %v", text(s), a, got)
			}
		}
		for _, a := range oracle.NoNumbers() {
			if Has(s, a) {
				t.Errorf("Has(%s, %v)", text(s), a)
			}
		}
	}
	for _, s := range bads() {
		for _, a := range append(numbers, oracle.NoNumbers()...) {
			if Has(s, a) {
				t.Errorf("Has(%s, %v)", text(s), a)
			}
		}
	}
}

// 4.5
func TestInside(t *testing.T) {
	var m oracle.Mixer
	for _, p := range pairs() {
		want := between(oracle.Exact(p.a.Lo), p.b) && between(oracle.Exact(p.a.Hi), p.b)
		if got := Inside(p.a, p.b); got != want {
			t.Errorf("Inside(%s, %s): %v", text(p.a), text(p.b), got)
		}
		if a := part(&m, p.b); !Inside(a, p.b) {
			t.Errorf("%s is inside %s", text(a), text(p.b))
		}
	}
	for _, a := range bads() {
		for _, b := range append(spans(), bads()...) {
			if Inside(a, b) || Inside(b, a) {
				t.Errorf("Inside of %s and %s", text(a), text(b))
			}
		}
	}
}

// 4.5: an end that is one step too far.
func TestInsideByAStep(t *testing.T) {
	for _, s := range spans() {
		if s.Lo == -oracle.Max || s.Hi == oracle.Max {
			continue
		}
		lower, upper := oracle.NumberAt(place(s.Lo)-1), oracle.NumberAt(place(s.Hi)+1)
		for _, wider := range []api.Span{of(lower, s.Hi), of(s.Lo, upper), of(lower, upper)} {
			if Inside(wider, s) || !Inside(s, wider) {
				t.Errorf("Inside of %s and %s", text(s), text(wider))
			}
		}
		if Has(s, lower) || Has(s, upper) || !Has(s, s.Lo) || !Has(s, s.Hi) {
			t.Errorf("Has of %s at its ends", text(s))
		}
	}
}

// 4.6
func TestWidth(t *testing.T) {
	t.Parallel()
	for _, s := range spans() {
		want := oracle.Roundings(new(big.Rat).Sub(oracle.Exact(s.Hi), oracle.Exact(s.Lo)))
		got, ok := Width(s)
		expectNumber(t, "Width of "+text(s), got, ok, want.Number[api.Up], want.Is[api.Up])
	}
	for _, s := range bads() {
		got, ok := Width(s)
		expectNumber(t, "Width of "+text(s), got, ok, 0, false)
	}
}

// 4.6: just at the greatest number, and beyond.
func TestWidthAtMax(t *testing.T) {
	got, ok := Width(of(0, oracle.Max))
	expectNumber(t, "Width from 0 to Max", got, ok, oracle.Max, true)
	got, ok = Width(of(-oracle.Least, oracle.Max))
	expectNumber(t, "Width from -e to Max", got, ok, 0, false)
	got, ok = Width(of(1, 1+0x1p-52))
	expectNumber(t, "Width of a step", got, ok, 0x1p-52, true)
	got, ok = Width(of(-oracle.Least, 1))
	expectNumber(t, "Width from -e to 1", got, ok, 1+0x1p-52, true)
}

// 4.6
func TestMiddle(t *testing.T) {
	t.Parallel()
	for _, s := range spans() {
		v := new(big.Rat).Add(oracle.Exact(s.Lo), oracle.Exact(s.Hi))
		want := oracle.Roundings(v.Mul(v, big.NewRat(1, 2)))
		got, ok := Middle(s)
		expectNumber(t, "Middle of "+text(s), got, ok, want.Number[api.Near], true)
	}
	for _, s := range bads() {
		got, ok := Middle(s)
		expectNumber(t, "Middle of "+text(s), got, ok, 0, false)
	}
}

// 4.6: ties, and what neither the ends' sum nor their halves tell.
func TestMiddleEdges(t *testing.T) {
	const e, max = oracle.Least, oracle.Max
	for _, c := range [][3]float64{
		{0, e, 0}, {e, 2 * e, 2 * e}, {-e, 0, 0}, {e, e, e}, {-3 * e, -2 * e, -2 * e}, {-e, e, 0},
		{max, max, max}, {-max, -max, -max}, {max - 0x1p971, max, max - 0x1p971}, {0, max, max / 2},
		{1, 1 + 0x1p-52, 1}, {1 + 0x1p-52, 1 + 0x1p-51, 1 + 0x1p-51}, {-1, 0x1p-60, -0.5},
	} {
		got, ok := Middle(of(c[0], c[1]))
		expectNumber(t, "Middle of "+text(of(c[0], c[1])), got, ok, c[2], true)
	}
}
