package acc

import (
	"testing"

	"ambit/api"
	"ambit/oracle"
)

// The chapter's examples of sums (3.5).
func TestExamplesOfSums(t *testing.T) {
	for _, c := range []struct {
		d    api.Dir
		l    []float64
		want float64
		is   bool
	}{
		{api.Near, nil, 0, true},
		{api.Near, []float64{oracle.MinusZero()}, 0, true},
		{api.Near, []float64{0x1p53, 1, 1}, 0x1p53 + 2, true},
		{api.Near, []float64{0x1p53, 1}, 0x1p53, true},
		{api.Up, []float64{1, oracle.Least}, 1 + 0x1p-52, true},
		{api.Down, []float64{-1, -oracle.Least}, -1 - 0x1p-52, true},
		{api.Near, []float64{oracle.Max, oracle.Max, -oracle.Max}, oracle.Max, true},
		{api.Near, []float64{oracle.Max, 0x1p970}, 0, false},
		{api.Down, []float64{oracle.Max, oracle.Max}, oracle.Max, true},
		{api.Up, []float64{oracle.Max, oracle.Max}, 0, false},
	} {
		got, ok := Sum(c.d, c.l...)
		expect(t, "Sum", c.d, got, ok, c.want, c.is)
	}
}

// The chapter's examples of products (3.5).
func TestExamplesOfProducts(t *testing.T) {
	for _, c := range []struct {
		d    api.Dir
		a, b []float64
		want float64
		is   bool
	}{
		{api.Near, []float64{0x1p600, 1}, []float64{0x1p600, 1}, 0, false},
		{api.Near, []float64{1}, nil, 0, false},
		{api.Up, []float64{oracle.Least}, []float64{0.5}, oracle.Least, true},
		{api.Near, []float64{oracle.Least}, []float64{0.5}, 0, true},
		{api.Near, []float64{oracle.Least}, []float64{0.75}, oracle.Least, true},
	} {
		got, ok := Dot(c.d, c.a, c.b)
		expect(t, "Dot", c.d, got, ok, c.want, c.is)
	}
}

// The chapter's example of an Acc that goes on (3.1 to 3.4).
func TestExampleGoesOn(t *testing.T) {
	x := New()
	x.Prod(3, 0.25, -1)
	got, ok := x.Round(api.Near)
	expect(t, "3/8", api.Near, got, ok, 0.375, true)
	if x.Sign() != 1 {
		t.Error("3/8 has the sign", x.Sign())
	}
	x.Join(x, true)
	got, ok = x.Round(api.Near)
	expect(t, "3/8 - 3/8", api.Near, got, ok, 0, true)
	if x.Sign() != 0 {
		t.Error("0 has the sign", x.Sign())
	}
	y := New()
	y.Add(3)
	x.Add(1)
	got, ok = x.Over(api.Near, y)
	expect(t, "1/3", api.Near, got, ok, 0x1.5555555555555p-2, true)
	got, ok = y.Over(api.Down, x)
	expect(t, "3/1", api.Down, got, ok, 3, true)
	got, ok = x.Over(api.Up, New())
	expect(t, "1/0", api.Up, got, ok, 0, false)
}

// The chapter's example of an Acc that is joined to itself again and again (3.2).
func TestExampleOfTheBound(t *testing.T) {
	x := New()
	x.Prod(oracle.Max, oracle.Max, 64)
	for range 448 {
		x.Join(x, false)
	}
	if x.Bad() {
		t.Error("bad below 2^2560")
	}
	x.Join(x, false)
	if !x.Bad() {
		t.Error("not bad from 2^2560 on")
	}
	x.Prod(1, 1, 65)
	isBad(t, "a bad one", x)
}
