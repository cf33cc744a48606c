package trim

import (
	"math"
	"testing"

	"ambit/api"
	"ambit/oracle"
	"ambit/samples"
)

// five has five columns of the losses 4, 0, 1, 4 and 2.
func five() api.Zono {
	return of(numbers(10, -20), ids(0, 1, 5, 6, api.MaxId), lists(numbers(-4, 4), numbers(0, -32), numbers(1, 1), numbers(4, 8), numbers(2, -3)), numbers(0.5, 0))
}

// 11.2: the least losses go, the others stay in their order, and the centre stays.
func TestReduce(t *testing.T) {
	c := numbers(10, -20)
	expectReduce(t, five(), 5, five())
	expectReduce(t, five(), 4, of(c, ids(0, 5, 6, api.MaxId), lists(numbers(-4, 4), numbers(1, 1), numbers(4, 8), numbers(2, -3)), numbers(0.5, 32)))
	expectReduce(t, five(), 3, of(c, ids(0, 6, api.MaxId), lists(numbers(-4, 4), numbers(4, 8), numbers(2, -3)), numbers(1.5, 33)))
	expectReduce(t, five(), 2, of(c, ids(0, 6), lists(numbers(-4, 4), numbers(4, 8)), numbers(3.5, 36)))
	expectReduce(t, five(), 1, of(c, ids(6), lists(numbers(4, 8)), numbers(7.5, 40)))
	expectReduce(t, five(), 0, of(c, nil, nil, numbers(11.5, 48)))
}

// 11.2: below 0 counts as 0, and above as many as there are is none let go, however far.
func TestReduceMost(t *testing.T) {
	none := of(numbers(10, -20), nil, nil, numbers(11.5, 48))
	for _, most := range []int{0, -1, -5, -1 << 32, math.MinInt + 1, math.MinInt} {
		expectReduce(t, five(), most, none)
		expectReduce(t, around(2, nil), most, around(2, nil))
	}
	for _, most := range []int{5, 6, 256, 1 << 32, math.MaxInt - 1, math.MaxInt} {
		expectReduce(t, five(), most, five())
		expectReduce(t, around(2, nil), most, around(2, nil))
	}
}

// 11.2: no columns, one, one coordinate, and as many as there may be.
func TestReduceAtTheEdges(t *testing.T) {
	bare := of(numbers(1, 2), nil, nil, numbers(3, 4))
	expectReduce(t, bare, 0, bare)
	expectReduce(t, bare, 1, bare)
	one := of(numbers(1, 2), ids(9), lists(numbers(-5, 6)), numbers(3, 4))
	expectReduce(t, one, 1, one)
	expectReduce(t, one, 0, of(numbers(1, 2), nil, nil, numbers(8, 10)))
	thin := of(numbers(1), ids(0, 4, api.MaxId), lists(numbers(-9), numbers(2), numbers(1)), numbers(0))
	expectReduce(t, thin, 2, of(numbers(1), ids(4, api.MaxId), lists(numbers(2), numbers(1)), numbers(9)))
	expectReduce(t, thin, 1, of(numbers(1), ids(api.MaxId), lists(numbers(1)), numbers(11)))
	wide, want := samples.WideZono(256, 2), samples.WideZono(256, 1)
	for i := range 256 {
		wide.C[i], wide.G[0][i], wide.G[1][i], wide.R[i] = 3, 1, -2, 0.25
		want.C[i], want.G[0][i], want.R[i] = 3, -2, 1.25
	}
	want.Ids[0] = 2
	expectReduce(t, wide, 1, want)
}

// 11.2: columns of noughts go without a trace, and no nought is told with a sign.
func TestReduceOfNoughts(t *testing.T) {
	minus := oracle.MinusZero()
	z := of(numbers(minus, 1), ids(2, 3, 4), lists(numbers(minus, 2), numbers(minus, 0), numbers(-1, -1)), numbers(minus, 0))
	expectReduce(t, z, 9, of(numbers(0, 1), ids(2, 3, 4), lists(numbers(0, 2), numbers(0, 0), numbers(-1, -1)), numbers(0, 0)))
	expectReduce(t, z, 2, of(numbers(0, 1), ids(3, 4), lists(numbers(0, 0), numbers(-1, -1)), numbers(0, 2)))
	expectReduce(t, z, 1, of(numbers(0, 1), ids(4), lists(numbers(-1, -1)), numbers(0, 2)))
	expectReduce(t, of(numbers(minus), nil, nil, numbers(minus)), 0, around(1, nil))
	expectReduce(t, of(numbers(minus), ids(0, 1), lists(numbers(minus), numbers(0)), numbers(minus)), 1, around(1, ids(1), numbers(0)))
	expectReduce(t, of(numbers(minus), ids(0, 1), lists(numbers(minus), numbers(0)), numbers(minus)), 0, around(1, nil))
}

// 11.2: R is one rounding of one sum, upward.
func TestReduceRoundsUp(t *testing.T) {
	max, least := oracle.Max, oracle.Least
	for _, c := range []struct {
		name string
		g    [][]float64
		r    float64
		want float64
	}{
		{"a sum between two numbers", lists(numbers(1), numbers(0x1p-60)), 0, 1 + 0x1p-52},
		{"the box between two numbers", lists(numbers(-0x1p-60)), 1, 1 + 0x1p-52},
		{"the least beside one", lists(numbers(-least)), 1, 1 + 0x1p-52},
		{"parts that would each be rounded", lists(numbers(0x1p53), numbers(1)), 1, 0x1p53 + 2},
		{"parts that would each be lost", lists(numbers(0x1p54), numbers(1), numbers(-1)), 2, 0x1p54 + 4},
		{"signs that would cancel", lists(numbers(2), numbers(-2)), 0.5, 4.5},
		{"subnormal ones", lists(numbers(-least), numbers(least)), least, 3 * least},
		{"as far as there are numbers", lists(numbers(0x1p971 - max)), 0x1p971, max},
	} {
		z := around(1, nil, c.g...)
		for k := range c.g {
			z.Ids = append(z.Ids, k)
		}
		z.R[0] = c.r
		if got := Reduce(z, 0); got.Bad || len(got.R) != 1 || !oracle.Same(got.R[0], c.want) {
			t.Errorf("%s: %s, not %x", c.name, text(got), c.want)
		}
	}
}

// 11.2: bad, where a sum is no number, at whatever coordinate; what stays may be as great as it likes.
func TestReduceWithoutANumber(t *testing.T) {
	max, least := oracle.Max, oracle.Least
	expectReduce(t, of(numbers(0), ids(0), lists(numbers(max)), numbers(least)), 0, samples.BadZono(1))
	expectReduce(t, of(numbers(0), ids(0), lists(numbers(-least)), numbers(max)), 0, samples.BadZono(1))
	expectReduce(t, of(numbers(0), ids(0), lists(numbers(-max)), numbers(0)), 0, of(numbers(0), nil, nil, numbers(max)))
	expectReduce(t, of(numbers(0), ids(0), lists(numbers(0)), numbers(max)), 0, of(numbers(0), nil, nil, numbers(max)))
	for i := range 3 {
		z := around(3, ids(0, 1), make([]float64, 3), make([]float64, 3))
		z.G[0][i], z.G[1][i] = max, -max
		expectReduce(t, z, 2, z)
		want := around(3, ids(1), z.G[1])
		want.R[i] = max
		expectReduce(t, z, 1, want)
		expectReduce(t, z, 0, samples.BadZono(3))
	}
	great := of(numbers(max, -max), ids(0, 1, 2), lists(numbers(max, max), numbers(-max, max), numbers(1, 1)), numbers(1, 2))
	expectReduce(t, great, 2, of(numbers(max, -max), ids(0, 1), lists(numbers(max, max), numbers(-max, max)), numbers(2, 3)))
	expectReduce(t, great, 1, samples.BadZono(2))
}

// 11.2: the bad one of as many coordinates, of a bad one; of 0, of what is no zonotope; whatever most is.
func TestReduceOfNone(t *testing.T) {
	for _, most := range []int{math.MinInt, -1, 0, 1, 3, math.MaxInt} {
		for _, n := range []int{0, 1, 2, 255, 256} {
			expectReduce(t, samples.BadZono(n), most, samples.BadZono(n))
			expectReduce(t, api.Zono{N: n, Bad: true, C: numbers(), Ids: ids(), G: lists(), R: numbers()}, most, samples.BadZono(n))
		}
		for _, z := range samples.SpoiltZonos() {
			expectReduce(t, z, most, samples.BadZono(0))
		}
	}
}
