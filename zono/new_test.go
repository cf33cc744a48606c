package zono

import (
	"slices"
	"testing"

	"ambit/api"
	"ambit/oracle"
	"ambit/samples"
)

// 10.2: ordinary ones: the Ids count the columns, columns of noughts too, and no nought has a sign.
func TestNew(t *testing.T) {
	minus := oracle.MinusZero()
	expect(t, "no columns", New(numbers(1, -2), nil), point(1, -2))
	expect(t, "three columns", New(numbers(1, -2), lists(numbers(3, 4), numbers(minus, 0), numbers(-5, minus))),
		of(numbers(1, -2), ids(0, 1, 2), lists(numbers(3, 4), numbers(0, 0), numbers(-5, 0)), numbers(0, 0)))
	expect(t, "edges", New(numbers(oracle.Max, -oracle.Least), lists(numbers(-oracle.Max, oracle.Least))),
		of(numbers(oracle.Max, -oracle.Least), ids(0), lists(numbers(-oracle.Max, oracle.Least)), numbers(0, 0)))
}

// 10.2: of each edge the same number, as the centre and in a column.
func TestNewKeepsNumbers(t *testing.T) {
	for _, a := range oracle.Edges() {
		b := a
		if a == 0 {
			b = 0
		}
		expect(t, "New", New(numbers(a), lists(numbers(a))), of(numbers(b), ids(0), lists(numbers(b)), numbers(0)))
	}
}

// 10.2: one coordinate, MaxWidth of them, one more, and none.
func TestNewWidths(t *testing.T) {
	for _, n := range []int{1, 2, 255, 256} {
		z := samples.WideZono(n, 2)
		got := New(z.C, z.G)
		if got.N != n || got.Bad || !slices.Equal(got.C, z.C) || !slices.Equal(got.G[1], z.G[1]) || Check(got) != api.OK {
			t.Errorf("New of %d coordinates: %s", n, text(got))
		}
	}
	for _, n := range []int{0, 257, 258, 1000} {
		expect(t, "New", New(samples.Counted(n), samples.Columns(3, n)), samples.BadZono(0))
		expect(t, "New without columns", New(samples.Counted(n), nil), samples.BadZono(0))
	}
}

// 10.2: as many columns as there are.
func TestNewManyColumns(t *testing.T) {
	got := New(numbers(1), samples.Columns(5000, 1))
	for i, id := range got.Ids {
		if id != i {
			t.Fatalf("the column %d has the Id %d", i, id)
		}
	}
	if len(got.Ids) != 5000 || len(got.G) != 5000 {
		t.Errorf("%d Ids, %d columns", len(got.Ids), len(got.G))
	}
}

// 10.2: columns of another length, whichever it is, and what is no number in every place.
func TestNewRefuses(t *testing.T) {
	for k := range 3 {
		for _, wrong := range [][]float64{nil, {}, {1}, {1, 2, 3}} {
			g := samples.Columns(3, 2)
			g[k] = wrong
			expect(t, "New of an unlike column", New(numbers(1, 2), g), samples.BadZono(0))
		}
		for i := range 2 {
			for _, a := range oracle.NoNumbers() {
				g, c := samples.Columns(3, 2), numbers(1, 2)
				g[k][i] = a
				expect(t, "New of a column that has none", New(c, g), samples.BadZono(0))
				c[i] = a
				expect(t, "New of a centre that has none", New(c, nil), samples.BadZono(0))
			}
		}
	}
	expect(t, "New of columns alone", New(nil, lists(numbers(1))), samples.BadZono(0))
	expect(t, "New of empty columns", New(nil, lists(nil, nil)), samples.BadZono(0))
}
