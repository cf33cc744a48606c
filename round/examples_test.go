package round

import (
	"math"
	"testing"

	"ambit/api"
	"ambit/oracle"
)

// An answer of a call that tells one number.
type answer struct {
	number float64
	is     bool
}

func of(number float64, is bool) answer { return answer{number, is} }

func some(number float64) answer { return answer{number, true} }

func none() answer { return answer{} }

// The examples of the chapter, one by one (2.2 to 2.5).
func TestExamples(t *testing.T) {
	for i, l := range [][2]answer{
		{of(Next(api.Up, 1)), some(1 + 0x1p-52)},
		{of(Next(api.Down, 1)), some(1 - 0x1p-53)},
		{of(Next(api.Near, oracle.MinusZero())), some(0)},
		{of(Next(api.Up, oracle.Max)), none()},
		{of(Next(api.Up, -oracle.Max)), some(-oracle.Max + 0x1p971)},
		{of(Next(api.Up, -oracle.Least)), some(0)},
		{of(Add(api.Near, 1, half)), some(1)},
		{of(Add(api.Up, 1, half)), some(1 + 0x1p-52)},
		{of(Add(api.Down, 1, half)), some(1)},
		{of(Add(api.Near, 1+0x1p-52, half)), some(1 + 0x1p-51)},
		{of(Add(api.Near, oracle.Max, 0x1p970)), none()},
		{of(Add(api.Near, oracle.Max, 0x1p969)), some(oracle.Max)},
		{of(Add(api.Up, oracle.Max, oracle.Least)), none()},
		{of(Add(api.Down, oracle.Max, oracle.Least)), some(oracle.Max)},
		{of(Add(api.Up, -oracle.Max, -oracle.Max)), some(-oracle.Max)},
		{of(Add(api.Down, -oracle.Max, -oracle.Max)), none()},
		{of(Mul(api.Near, oracle.Least, 0.5)), some(0)},
		{of(Mul(api.Up, oracle.Least, 0.5)), some(oracle.Least)},
		{of(Mul(api.Near, oracle.Least, 0.75)), some(oracle.Least)},
		{of(Mul(api.Up, -oracle.Least, 0.5)), some(0)},
		{of(Div(api.Near, 1, 3)), some(0x1.5555555555555p-2)},
		{of(Div(api.Up, 1, 3)), some(0x1.5555555555556p-2)},
		{of(Div(api.Down, 1, 0)), none()},
		{of(Scale(api.Up, 3, -2000)), some(oracle.Least)},
		{of(Scale(api.Near, 3, -2000)), some(0)},
		{of(Scale(api.Down, 1, 5000)), some(oracle.Max)},
		{of(Scale(api.Up, 1, 5000)), none()},
		{of(Add(9, 1, 1)), none()},
		{of(Add(api.Near, math.NaN(), 1)), none()},
	} {
		if l[0].is != l[1].is || !oracle.Same(l[0].number, l[1].number) {
			t.Errorf("example %d: %v, not %v", i, l[0], l[1])
		}
	}
}

// The chapter's noughts, for every direction (2.3).
func TestExampleNoughts(t *testing.T) {
	for _, d := range oracle.Directions() {
		number, ok := Sub(d, 1, 1)
		expect(t, "1 - 1", number, ok, 0, true)
		number, ok = Mul(d, oracle.MinusZero(), 5)
		expect(t, "-0 * 5", number, ok, 0, true)
	}
}

// The chapter's sums and products of two parts (2.6).
func TestExampleParts(t *testing.T) {
	s, e, ok := Sum2(1, half)
	expect(t, "1 + u", s, ok, 1, true)
	expect(t, "1 + u less 1", e, ok, half, true)
	s, e, ok = Sum2(oracle.Max, oracle.Max)
	expect(t, "Max + Max", s, ok, 0, false)
	expect(t, "what Max + Max leaves", e, ok, 0, false)
	p, e, ok := Prod2(1+0x1p-52, 1+0x1p-52)
	expect(t, "a square", p, ok, 1+0x1p-51, true)
	expect(t, "what the square leaves", e, ok, 0x1p-104, true)
	p, e, ok = Prod2(oracle.Least, 0.5)
	expect(t, "half of e", p, ok, 0, false)
	expect(t, "what half of e leaves", e, ok, 0, false)
}
