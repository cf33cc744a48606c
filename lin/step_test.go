package lin

import (
	"testing"

	"ambit/api"
	"ambit/oracle"
	"ambit/samples"
)

// four is of four coordinates: every list tells where a number stood.
func four() api.Zono {
	return of(numbers(1, 2, 3, 4), ids(2, 5), lists(numbers(10, 20, 30, 40), numbers(0, 0, -1, 0)), numbers(0.5, 0, 0, 2))
}

// 12.2: each row is an image, and the rows stand in their order.
func TestDense(t *testing.T) {
	l := dense(numbers(1, 0, 0, 0, 0, 1, -1, 0, 1, 1, 1, -2), numbers(7, 8, 9))
	expectStep(t, four(), l, samples.Line(4), of(numbers(8, 7, 7), ids(2, 5), lists(numbers(10, -10, -20), numbers(0, 1, -1)), numbers(0.5, 0, 4.5)))
	expectStep(t, four(), dense(numbers(0, 0, 0, 0.25), numbers(-1)), samples.Line(4), of(numbers(0), ids(2), lists(numbers(10)), numbers(0.5)))
}

// 12.2: a filter over two channels, steps and noughts around; its B is of the filter.
func TestConv(t *testing.T) {
	l := samples.Windowed(api.KConv, 1, 2, 1, 2, 0, 1)
	l.W, l.B = numbers(1, 2, 3, 4, 0, 0, 0, -1), numbers(100, 200)
	// The channels are (1 2) and (3 4): the windows are (- 1) and (2 -), (- 3) and (4 -).
	expectStep(t, four(), l, samples.Shape(2, 1, 2), of(
		numbers(100+2+12, 100+2+12, 200-3, 200), ids(2, 5),
		lists(numbers(20+120, 20+120, -30, 0), numbers(-4, 0, 1, 0)),
		numbers(1, 6, 0, 0)))
}

// 12.2: a channel's numbers are those of all its coordinates.
func TestScale(t *testing.T) {
	expectStep(t, four(), scale(numbers(-2, 0.5), numbers(1, -1)), samples.Shape(2, 1, 2), of(
		numbers(-1, -3, 0.5, 1), ids(2, 5), lists(numbers(-20, -40, 15, 20), numbers(0, 0, -0.5, 0)), numbers(1, 0, 0, 1)))
	expectStep(t, four(), scale(numbers(1, 1, 0, 1), numbers(0, 0, 5, 0)), samples.Shape(4, 1, 1), of(
		numbers(1, 2, 5, 4), ids(2), lists(numbers(10, 20, 0, 40)), numbers(0.5, 0, 0, 2)))
}

// 12.2: what lies in the window, times A; outside there is nothing.
func TestMean(t *testing.T) {
	expectStep(t, four(), mean(0.5, 2, 1, 1, 1, 1, 0), samples.Shape(1, 4, 1), of(
		numbers(0.5, 1.5, 2.5, 3.5, 2), ids(2, 5), lists(numbers(5, 15, 25, 35, 20), numbers(0, 0, -0.5, -0.5, 0)), numbers(0.25, 0.25, 0, 1, 1)))
	expectStep(t, four(), mean(-1, 1, 2, 1, 2, 0, 0), samples.Shape(1, 2, 2), of(
		numbers(-3, -7), ids(2, 5), lists(numbers(-30, -70), numbers(0, 1)), numbers(0.5, 2)))
}

// 12.2: complex rows are two rows each.
func TestTurn(t *testing.T) {
	l := turn([]complex128{1, 2i, -1i, 3 + 1i}, []complex128{5 + 6i, 0})
	// (1 + 2i) + 2i (3 + 4i) = -7 + 8i; -i (1 + 2i) + (3 + i) (3 + 4i) = 2 - i + 5 + 15i.
	expectStep(t, four(), l, samples.Line(4), of(
		numbers(-2, 14, 7, 14), ids(2, 5),
		lists(numbers(10-80, 20+60, 20+50, -10+150), numbers(0, -2, -3, -1)),
		numbers(0.5+4, 0, 2, 0.5+6)))
}

// 12.2: a coordinate that a row does not take counts 0, however great or wide it is there.
func TestRowsTakeSomeAlone(t *testing.T) {
	max := oracle.Max
	z := of(numbers(max, 1), ids(0, 1), lists(numbers(-max, 0), numbers(0, 3)), numbers(max, 0.25))
	expectStep(t, z, scale(numbers(1, 2), numbers(0, 0)), samples.Shape(2, 1, 1), of(numbers(max, 2), ids(0, 1), lists(numbers(-max, 0), numbers(0, 6)), numbers(max, 0.5)))
	expectStep(t, z, mean(2, 1, 1, 2, 1, 0, 0), samples.Shape(1, 2, 1), samples.BadZono(1))
	expectStep(t, z, dense(numbers(0, 2), numbers(0)), samples.Line(2), of(numbers(2), ids(1), lists(numbers(6)), numbers(0.5)))
	l := samples.Windowed(api.KConv, 1, 2, 1, 1, 0, 1)
	l.Out, l.W, l.B = 1, numbers(2, 0), numbers(0)
	expectStep(t, z, l, samples.Line(2), samples.BadZono(3))
	l.W = numbers(0, 2)
	expectStep(t, z, l, samples.Line(2), samples.BadZono(3))
	l.W = numbers(0, 1)
	expectStep(t, z, l, samples.Line(2), of(numbers(max, 1, 0), ids(0, 1), lists(numbers(-max, 0, 0), numbers(0, 3, 0)), numbers(max, 0.25, 0)))
}

// 12.2: a column that is 0 everywhere goes with its Id, whether it was so, came out so, or was rounded to it; the others keep theirs.
func TestColumnsOfNoughtsGo(t *testing.T) {
	minus, least := oracle.MinusZero(), oracle.Least
	z := of(numbers(1, 1), ids(0, 1, 4, 6, 9, api.MaxId), lists(numbers(0, minus), numbers(1, 1), numbers(2, -2), numbers(0, least), numbers(-5, 5), numbers(least, 0)), numbers(0, 0))
	expectStep(t, z, dense(numbers(1, 1), numbers(0)), samples.Line(2), of(numbers(2), ids(1, 6, api.MaxId), lists(numbers(2), numbers(least), numbers(least)), numbers(0)))
	expectStep(t, z, dense(numbers(1, -1, 2, -2), numbers(0, 0)), samples.Line(2), of(numbers(0, 0), ids(4, 6, 9, api.MaxId),
		lists(numbers(4, 8), numbers(-least, -2*least), numbers(-10, -20), numbers(least, 2*least)), numbers(0, 0)))
	expectStep(t, z, dense(numbers(0.5, 0.25), numbers(0)), samples.Line(2), of(numbers(0.75), ids(1, 4, 9), lists(numbers(0.75), numbers(0.5), numbers(-1.25)), numbers(least)))
	expectStep(t, z, dense(numbers(0.5, 0.75), numbers(0)), samples.Line(2), of(numbers(1.25), ids(1, 4, 6, 9), lists(numbers(1.25), numbers(-0.5), numbers(least), numbers(1.25)), numbers(least)))
	// One nought beside a number makes no column go.
	expectStep(t, z, dense(numbers(1, 1, 0, 1), numbers(0, 0)), samples.Line(2), of(numbers(2, 1), ids(1, 4, 6, 9, api.MaxId),
		lists(numbers(2, 1), numbers(0, -2), numbers(least, least), numbers(0, 5), numbers(least, 0)), numbers(0, 0)))
	expectStep(t, z, dense(numbers(0, 0, minus, 0), numbers(3, minus)), samples.Line(2), point(3, 0))
}

// 12.2: no columns, one coordinate, and Step's b is of its row.
func TestStepAtTheEdges(t *testing.T) {
	expectStep(t, point(3), dense(numbers(2), numbers(1)), samples.Line(1), point(7))
	expectStep(t, of(numbers(3), ids(), lists(), numbers(1)), scale(numbers(-2), numbers(1)), samples.Line(1), of(numbers(-5), nil, nil, numbers(2)))
	expectStep(t, of(numbers(3), ids(8), lists(numbers(1)), numbers(1)), dense(numbers(2, 0, -1), numbers(1, 2, 3)), samples.Line(1),
		of(numbers(7, 2, 0), ids(8), lists(numbers(2, 0, -1)), numbers(2, 0, 1)))
	expectStep(t, point(3, 5), turn([]complex128{1i}, []complex128{1}), samples.Line(2), point(-4, 3))
	expectStep(t, point(3), mean(3, 16, 16, 16, 16, 15, 15), samples.Line(1), point(9))
}

// 12.2: the coordinates' number counts, not how they lie.
func TestStepHeedsTheShape(t *testing.T) {
	for _, in := range []api.Shape{samples.Line(4), samples.Shape(4, 1, 1), samples.Shape(1, 4, 1), samples.Shape(2, 1, 2), samples.Shape(2, 2, 1)} {
		expectStep(t, four(), dense(numbers(1, -1, 1, -1), numbers(0)), in, of(numbers(-2), ids(2, 5), lists(numbers(-20), numbers(-1)), numbers(2.5)))
		w, b := samples.Ones(in.C), make([]float64, in.C)
		expectStep(t, four(), scale(w, b), in, four())
	}
}

// 12.2, 12.4: what is lost in a row goes into the box at its coordinate alone, in one rounding upward.
func TestStepPutsLossesIntoTheBox(t *testing.T) {
	half := 0x1p-53
	z := of(numbers(1, 0), ids(3), lists(numbers(1, 1)), numbers(1, 0))
	l := dense(numbers(1, half, 1, 0, 0, half), numbers(half, 0, -1))
	expectStep(t, z, l, samples.Line(2), of(numbers(1, 1, -1), ids(3), lists(numbers(1, 1, half)), numbers(1+0x1p-52, 1, 0)))
	expectStep(t, point(0x1p53, 1), dense(numbers(1, 1, 1, 2, 1, 3), numbers(0, 0, 0)), samples.Line(2), of(numbers(0x1p53, 0x1p53+2, 0x1p53+4), nil, nil, numbers(1, 0, 1)))
}

// 12.2: one row without an image makes all of it bad, whichever it is, and whichever number is none.
func TestStepWithoutANumber(t *testing.T) {
	max := oracle.Max
	for _, z := range []api.Zono{point(max, 1), about(2, ids(3), numbers(max, 1)), of(numbers(0, 0), nil, nil, numbers(max, 1))} {
		for _, n := range []int{1, 2, 40} {
			for _, i := range []int{0, n / 2, n - 1} {
				l := dense(make([]float64, 2*n), make([]float64, n))
				l.W[2*i] = 2
				expectStep(t, z, l, samples.Line(2), samples.BadZono(n))
			}
		}
	}
	expectStep(t, point(max), scale(numbers(1), numbers(max)), samples.Line(1), samples.BadZono(1))
	expectStep(t, point(max, max), turn([]complex128{1 + 1i}, []complex128{0}), samples.Line(2), samples.BadZono(2))
	expectStep(t, point(max, max), mean(1, 1, 2, 1, 1, 0, 1), samples.Line(2), samples.BadZono(3))
}

// 12.2: the bad one of as many coordinates as there are rows, of a bad one, whatever it has of them.
func TestStepOfBad(t *testing.T) {
	for _, s := range ordinary() {
		for _, n := range []int{0, 1, s.size(), s.size() + 1, s.rows(), 256} {
			expectStep(t, samples.BadZono(n), s.l, s.in, samples.BadZono(s.rows()))
		}
		expectStep(t, api.Zono{N: s.size(), Bad: true, C: numbers(), Ids: ids(), G: lists(), R: numbers()}, s.l, s.in, samples.BadZono(s.rows()))
	}
}

// 12.2: likewise of what is no zonotope.
func TestStepOfNoZonotope(t *testing.T) {
	for _, z := range samples.SpoiltZonos() {
		expectStep(t, z, dense(numbers(1, 1, 1, 1, 1, 1), numbers(0, 0, 0)), samples.Line(2), samples.BadZono(3))
	}
	for _, s := range ordinary() {
		z := samples.WideZono(s.size(), 2)
		z.R[s.size()-1] = -1
		expectStep(t, z, s.l, s.in, samples.BadZono(s.rows()))
		z = samples.WideZono(s.size(), 2)
		z.Ids[1] = 0
		expectStep(t, z, s.l, s.in, samples.BadZono(s.rows()))
	}
}

// 12.2: likewise of one with other coordinates than the shape has.
func TestStepOfOtherCoordinates(t *testing.T) {
	for _, s := range ordinary() {
		for _, n := range []int{1, 2, s.size() - 1, s.size() + 1, 2 * s.size(), 256} {
			expectStep(t, samples.WideZono(n, 2), s.l, s.in, samples.BadZono(s.rows()))
		}
		if got, e := Step(samples.WideZono(s.size(), 2), s.l, s.in, 2); got.Bad || got.N != s.rows() || e != api.OK {
			t.Errorf("%s %v", text(got), e)
		}
	}
}

// 12.2: as many rows, weights and coordinates as there may be, and more columns than rows.
func TestGreatSteps(t *testing.T) {
	z := samples.WideZono(256, 300)
	one := dense(make([]float64, 256*255), make([]float64, 255))
	for i := range 255 {
		one.W[i*256+i], one.W[i*256+i+1], one.B[i] = 1, -2, 0.5
	}
	want := api.Zono{N: 255}
	less := func(l []float64) []float64 {
		var all []float64
		for i := range 255 {
			all = append(all, l[i]-2*l[i+1]+0)
		}
		return all
	}
	want.C = less(z.C)
	for i := range want.C {
		want.C[i] += 0.5
		want.R = append(want.R, z.R[i]+2*z.R[i+1])
	}
	for k, g := range z.G {
		want.Ids, want.G = append(want.Ids, z.Ids[k]), append(want.G, less(g))
	}
	expectStep(t, z, one, samples.Shape(4, 8, 8), want)
}
