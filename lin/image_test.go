package lin

import (
	"testing"

	"ambit/api"
	"ambit/oracle"
	"ambit/samples"
)

// wide is of three coordinates and three columns.
func wide() api.Zono {
	return of(numbers(1, -2, 4), ids(0, 3, api.MaxId), lists(numbers(1, 0, 0), numbers(2, 3, -1), numbers(0, 0, 5)), numbers(0.5, 2, 0))
}

// 12.1: a centre, a number of each column in their order, and the box by the weights' sizes; b is in the centre alone.
func TestImage(t *testing.T) {
	expectImage(t, wide(), numbers(1, 1, 1), 0, 3, numbers(1, 4, 5), 2.5)
	expectImage(t, wide(), numbers(1, 1, 1), 100, 103, numbers(1, 4, 5), 2.5)
	expectImage(t, wide(), numbers(-2, 3, 0.5), -1, -7, numbers(-2, 4.5, 2.5), 7)
	expectImage(t, wide(), numbers(0, 0, -1), 0, -4, numbers(0, 1, -5), 0)
	expectImage(t, wide(), numbers(0, -1, 0), 0.25, 2.25, numbers(0, -3, 0), 2)
	expectImage(t, wide(), numbers(0, 0, 0), -8, -8, numbers(0, 0, 0), 0)
}

// 12.1: no columns, columns of noughts, one coordinate, and as many as there may be.
func TestImageAtTheEdges(t *testing.T) {
	expectImage(t, of(numbers(3), nil, nil, numbers(2)), numbers(-4), 1, -11, nil, 8)
	expectImage(t, of(numbers(3), ids(), lists(), numbers(2)), numbers(-4), 1, -11, numbers(), 8)
	expectImage(t, of(numbers(3), ids(7, 9), lists(numbers(0), numbers(-1)), numbers(0)), numbers(-4), 0, -12, numbers(0, 4), 0)
	all := samples.WideZono(256, 2)
	for i := range 256 {
		all.C[i], all.G[0][i], all.G[1][i], all.R[i] = 1, 2, -3, 0.5
	}
	expectImage(t, all, samples.Ones(256), 7, 263, numbers(512, -768), 128)
	many := samples.WideZono(1, 3000)
	want := make([]float64, 3000)
	for k := range want {
		many.G[k][0], want[k] = float64(k+1), float64(-2*k-2)
	}
	many.C[0], many.R[0] = 1, 0
	expectImage(t, many, numbers(-2), 0, -2, want, 0)
}

// 12.1: each sum is rounded once: what would be lost or changed on the way is not.
func TestImageRoundsOnce(t *testing.T) {
	max, least := oracle.Max, oracle.Least
	for _, c := range []struct {
		name    string
		l, w    []float64
		want, r float64
	}{
		{"parts that would be lost one by one", numbers(0x1p53, 1, 1), numbers(1, 1, 1), 0x1p53 + 2, 0},
		{"a part that is left when the great ones have gone", numbers(0x1p100, 1, 0x1p100), numbers(1, 1, -1), 1, 0},
		{"products of many bits that cancel", numbers(1+0x1p-52, 1), numbers(1+0x1p-52, -1-0x1p-51), 0x1p-104, 0},
		{"a product of many bits", numbers(1 + 0x1p-52), numbers(1 + 0x1p-52), 1 + 0x1p-51, 0x1p-104},
		{"products past the greatest number", numbers(max, max, 3), numbers(max, -max, 1), 3, 0},
		{"products below the least", numbers(least, least), numbers(0.5, 0.5), least, 0},
		{"the least ones squared", numbers(least), numbers(least), 0, least},
		{"a tie, down to the even one", numbers(0x1p53, 1), numbers(1, 1), 0x1p53, 1},
		{"a tie, up to the even one", numbers(0x1p53, 3), numbers(1, 1), 0x1p53 + 4, 1},
		{"a tie that is none by a little more", numbers(0x1p53, 1, least), numbers(1, 1, 1), 0x1p53 + 2, 1},
		{"a tie that is none by a little less", numbers(0x1p53, 3, least), numbers(1, 1, -1), 0x1p53 + 2, 1},
		{"a tie below 0", numbers(0x1p53, 3), numbers(-1, -1), -0x1p53 - 4, 1},
		{"a tie of the least and 0", numbers(least), numbers(-0.5), 0, least},
		{"a tie of the least ones", numbers(3 * least), numbers(0.5), 2 * least, least},
		{"nearer to the least than to 0", numbers(least), numbers(0.75), least, least},
		{"as near to the greatest as may be", numbers(max, 0x1p969), numbers(1, 1), max, 0x1p969},
	} {
		n := len(c.l)
		expectImage(t, point(c.l...), c.w, 0, c.want, nil, c.r)
		expectImage(t, about(n, ids(5), c.l), c.w, 0, 0, numbers(c.want), c.r)
		expectImage(t, about(n, ids(5, 6), make([]float64, n), c.l), c.w, 3, 3, numbers(0, c.want), c.r)
		if t.Failed() {
			t.Fatal(c.name)
		}
	}
}

// 12.1: b is a part of the one sum.
func TestImageRoundsWithB(t *testing.T) {
	expectImage(t, point(0x1p53, 1), numbers(1, 1), 1, 0x1p53+2, nil, 0)
	expectImage(t, point(0x1p53), numbers(1), 1, 0x1p53, nil, 1)
	expectImage(t, point(0x1p53), numbers(-1), -3, -0x1p53-4, nil, 1)
	expectImage(t, point(oracle.Max), numbers(2), -oracle.Max, oracle.Max, nil, 0)
	expectImage(t, point(1+0x1p-52), numbers(1+0x1p-52), -1-0x1p-51, 0x1p-104, nil, 0)
	expectImage(t, point(0), numbers(0), oracle.Least, oracle.Least, nil, 0)
}

// 12.1: r is one rounding upward of one sum of sizes: of the box, of what the centre lost, and of what each column lost.
func TestImageRoundsLossesUp(t *testing.T) {
	half := 0x1p-53
	for _, c := range []struct {
		name string
		z    api.Zono
		w    []float64
		b    float64
		c    float64
		g    []float64
		r    float64
	}{
		{"the box alone, between two numbers", of(numbers(0, 0), nil, nil, numbers(1, 1)), numbers(1, 0x1p-60), 0, 0, nil, 1 + 0x1p-52},
		{"the box's parts are not rounded one by one", of(numbers(0, 0, 0), nil, nil, numbers(1, 1, 1)), numbers(1, half, -half), 0, 0, nil, 1 + 0x1p-52},
		{"a loss beside the box", of(numbers(1), nil, nil, numbers(1)), numbers(1), half / 2, 1, nil, 1 + 0x1p-52},
		{"box, centre and column are one sum", of(numbers(1, 0), ids(3), lists(numbers(1, 1)), numbers(1, 0)), numbers(1, half), half, 1, numbers(1), 1 + 0x1p-52},
		{"losses of two signs do not cancel", of(numbers(1+0x1p-52, 0), ids(3), lists(numbers(1, 1)), numbers(0, 0)), numbers(1, half), half, 1 + 0x1p-51, numbers(1), 0x1p-52},
		{"losses of two columns do not cancel", about(2, ids(0, 1), numbers(1, 1), numbers(1+0x1p-52, 1)), numbers(1, half), 0, 0, numbers(1, 1+0x1p-51), 0x1p-52},
		{"losses below 0", about(2, ids(0, 1), numbers(1+0x1p-52, 1), numbers(-1-0x1p-52, -1)), numbers(-1, -half), 0, 0, numbers(-1-0x1p-51, 1+0x1p-51), 0x1p-52},
		{"losses too small for a number of their own", of(numbers(oracle.Least), ids(0, 1), lists(numbers(oracle.Least), numbers(-oracle.Least)), numbers(oracle.Least)), numbers(0.25), 0, 0, numbers(0, 0), oracle.Least},
		{"losses just past one", of(numbers(oracle.Least), ids(0, 1), lists(numbers(oracle.Least), numbers(-oracle.Least)), numbers(2*oracle.Least)), numbers(0.25), 0, 0, numbers(0, 0), 2 * oracle.Least},
		{"the greatest box", of(numbers(0), nil, nil, numbers(oracle.Max)), numbers(-1), 0, 0, nil, oracle.Max},
	} {
		expectImage(t, c.z, c.w, c.b, c.c, c.g, c.r)
		if t.Failed() {
			t.Fatal(c.name)
		}
	}
}

// 12.4: where all sums are numbers, and there is no box, there is none in the answer, however long the numbers are.
func TestImageOfNumbersHasNoBox(t *testing.T) {
	z := of(numbers(0x1p1000, 0x1p-1000), ids(1, 2), lists(numbers(oracle.Max, 0), numbers(0, oracle.Least)), numbers(0, 0))
	expectImage(t, z, numbers(1, 0), 0, 0x1p1000, numbers(oracle.Max, 0), 0)
	expectImage(t, z, numbers(0, 3), 0, 0x3p-1000, numbers(0, 3*oracle.Least), 0)
	expectImage(t, z, numbers(0x1p-1000, 0x1p1000), -2, 0, numbers(0x1p24-0x1p-29, 0x1p-74), 0)
}

// 12.1: none, if the centre, a number of a column, or the box is no number.
func TestImageWithoutANumber(t *testing.T) {
	max, least := oracle.Max, oracle.Least
	expectNoImage(t, point(max, 0x1p970), numbers(1, 1), 0)
	expectNoImage(t, point(max, 0x1p970), numbers(-1, -1), 0)
	expectNoImage(t, point(max), numbers(1), 0x1p970)
	expectNoImage(t, point(max), numbers(max), max)
	expectNoImage(t, about(2, ids(5), numbers(max, 0x1p970)), numbers(1, 1), 0)
	expectNoImage(t, about(2, ids(5), numbers(max, 0x1p970)), numbers(-1, -1), 0)
	expectNoImage(t, about(1, ids(1, 2, 3), numbers(max), numbers(1), numbers(1)), numbers(2), 0)
	expectNoImage(t, about(1, ids(1, 2, 3), numbers(1), numbers(max), numbers(1)), numbers(2), 0)
	expectNoImage(t, about(1, ids(1, 2, 3), numbers(1), numbers(1), numbers(max)), numbers(2), 0)
	expectNoImage(t, of(numbers(0), nil, nil, numbers(max)), numbers(2), 0)
	expectNoImage(t, of(numbers(0), nil, nil, numbers(max)), numbers(-1-0x1p-52), 0)
	expectNoImage(t, of(numbers(0, 0), nil, nil, numbers(max, least)), numbers(1, 1), 0)
	// The box is full, and a little was lost beside it: by the centre, or by a column.
	expectNoImage(t, of(numbers(0, least), nil, nil, numbers(max, 0)), numbers(1, 0.5), 0)
	expectNoImage(t, of(numbers(0, 0), ids(0), lists(numbers(0, least)), numbers(max, 0)), numbers(1, 0.5), 0)
	expectImage(t, of(numbers(0, 0), ids(0), lists(numbers(0, least)), numbers(max, 0)), numbers(1, 2), 0, 0, numbers(2*least), max)
}

// 12.1, Numbers: no nought has a sign, whatever signs those have that are handed in.
func TestImageOfNoughts(t *testing.T) {
	minus := oracle.MinusZero()
	for _, nought := range numbers(0, minus) {
		for _, w := range numbers(0, minus, 1, -1, oracle.Max, -oracle.Least) {
			for _, b := range numbers(0, minus) {
				expectImage(t, of(numbers(nought), ids(0), lists(numbers(nought)), numbers(nought)), numbers(w), b, 0, numbers(0), 0)
			}
		}
		expectImage(t, of(numbers(5, -7), ids(0), lists(numbers(-3, 2)), numbers(1, 2)), numbers(nought, nought), minus, 0, numbers(0), 0)
		expectImage(t, of(numbers(5, 5), ids(0), lists(numbers(-3, -3)), numbers(nought, nought)), numbers(-1, 1), nought, 0, numbers(0), 0)
	}
	expectImage(t, point(oracle.Least), numbers(-0.25), 0, 0, nil, oracle.Least)
	expectImage(t, about(1, ids(0), numbers(-oracle.Least)), numbers(0.25), 0, 0, numbers(0), oracle.Least)
}

// 12.1: weights of another length, and none.
func TestImageByOtherLengths(t *testing.T) {
	for _, z := range []api.Zono{wide(), first(), point(1), samples.WideZono(256, 3), samples.RoomyZono()} {
		for _, n := range []int{0, 1, 2, 3, 4, 255, 256, 257} {
			if n != z.N {
				expectNoImage(t, z, make([]float64, n), 1)
			}
		}
		expectNoImage(t, z, nil, 0)
		expectNoImage(t, z, samples.Roomy(make([]float64, z.N-1), 0), 0)
	}
}

// 12.1: what is no number, at every place of the weights, though it would be taken times 0; and beside them.
func TestImageByNoNumbers(t *testing.T) {
	for _, z := range []api.Zono{wide(), point(0, 0, 0), about(3, ids(2), make([]float64, 3)), samples.WideZono(256, 1)} {
		for _, none := range oracle.NoNumbers() {
			for j := range z.N {
				w := make([]float64, z.N)
				w[j] = none
				expectNoImage(t, z, w, 0)
			}
			expectNoImage(t, z, make([]float64, z.N), none)
		}
	}
	// Two that would make up for one another are no numbers all the same.
	inf := oracle.NoNumbers()[1]
	expectNoImage(t, wide(), numbers(inf, 1, -inf), 0)
	expectNoImage(t, wide(), numbers(1, 1, inf), -inf)
}

// 12.1: bad ones, and what is no zonotope, whatever weights there are.
func TestImageOfNone(t *testing.T) {
	for _, n := range []int{0, 1, 2, 255, 256} {
		expectNoImage(t, samples.BadZono(n), make([]float64, n), 0)
		expectNoImage(t, api.Zono{N: n, Bad: true, C: numbers(), Ids: ids(), G: lists(), R: numbers()}, make([]float64, n), 1)
	}
	for _, z := range samples.SpoiltZonos() {
		for _, w := range [][]float64{nil, numbers(), numbers(0), numbers(1, 1), numbers(0, 0), numbers(0, 0, 0), make([]float64, 256), make([]float64, 257)} {
			expectNoImage(t, z, w, 0)
		}
	}
}
