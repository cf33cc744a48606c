package trim

import (
	"testing"

	"ambit/api"
	"ambit/oracle"
	"ambit/samples"
)

// 11.1: a loss is the sizes but for the greatest, which is left out once.
func TestOrderByLoss(t *testing.T) {
	expectOrder(t, around(3, ids(1, 2, 4, 8, 9), numbers(9, 9, 0), numbers(-100, 3, -5), numbers(1, 1, 1), numbers(0, -50, 0), numbers(-4, 0, 4)), 8, 4, 9, 2, 1)
	expectOrder(t, around(2, ids(0, 1), numbers(3, 3), numbers(2, 1000)), 1, 0)
}

// 11.1: neither the centre nor the box counts.
func TestOrderHeedsColumnsAlone(t *testing.T) {
	g := lists(numbers(2, 2), numbers(1, 9))
	expectOrder(t, of(numbers(oracle.Max, -oracle.Max), ids(0, 1), g, numbers(oracle.Max, 0)), 1, 0)
	expectOrder(t, of(numbers(0, 0), ids(0, 1), g, numbers(0, oracle.Max)), 1, 0)
}

// 11.1: of the same loss the lesser number goes first, whatever signs, places and greatest sizes there are.
func TestOrderOfTheSameLoss(t *testing.T) {
	expectOrder(t, around(3, ids(0, 4, 5, 9, api.MaxId), numbers(7, -1, 2), numbers(2, 1, 3), numbers(-3, 0, 1000), numbers(-1, -2, -2), numbers(3, 3, 0)), 0, 4, 5, 9, api.MaxId)
	expectOrder(t, around(2, ids(2, 3, 6, 7, 8), numbers(5, 6), numbers(1, -1), numbers(0, 8), numbers(1, 2), numbers(-6, 5)), 6, 3, 7, 2, 8)
}

// 11.1: many of the same loss, so that a sort that turns such about would be seen.
func TestOrderOfManyOfTheSameLoss(t *testing.T) {
	var z api.Zono
	var want []int
	for k := range 1000 {
		z.Ids, z.G = append(z.Ids, 3*k), append(z.G, numbers(float64(k%4), 4))
	}
	for rest := range 4 {
		for k := rest; k < 1000; k += 4 {
			want = append(want, 3*k)
		}
	}
	expectOrder(t, around(2, z.Ids, z.G...), want...)
}

// 11.1: columns of noughts have the loss 0, as those of one size have.
func TestOrderOfNoughts(t *testing.T) {
	minus := oracle.MinusZero()
	expectOrder(t, around(2, ids(0, 1, 2, 3, 4, 5), numbers(1, 1), numbers(minus, minus), numbers(0, 0), numbers(minus, -3), numbers(-3, 0), numbers(0, minus)), 1, 2, 3, 4, 5, 0)
}

// 11.1: losses that a rounding would make one.
func TestOrderOfNearLosses(t *testing.T) {
	max, least := oracle.Max, oracle.Least
	for _, c := range []struct {
		name       string
		more, less []float64
	}{
		{"a part that a sum would swallow", numbers(0x1p60, 0x1p60, 1), numbers(0x1p60, 0x1p60, 0)},
		{"two halves of a last bit", numbers(1, 1, 0x1p-54, 0x1p-54), numbers(1, 1, 0x1p-54, 0)},
		{"what is left when the greatest has gone", numbers(0x1p100, 1), numbers(0x1p100, 0.5)},
		{"the least beside the greatest", numbers(max, least), numbers(max, 0)},
		{"least ones", numbers(1, 2*least), numbers(-1, least)},
		{"sums past the greatest number", numbers(max, max, max, least), numbers(max, max, -max, 0)},
		{"farther past it", numbers(max, max, max, max), numbers(max, max, max, max-0x1p971)},
		{"a last bit, another greatest", numbers(1+0x1p-52, 2), numbers(1, 2+0x1p-51)},
	} {
		n := len(c.more)
		if got := Order(around(n, ids(1, 2), c.more, c.less)); len(got) != 2 || got[0] != 2 {
			t.Errorf("%s: %v", c.name, got)
		}
		if got := Order(around(n, ids(1, 2), c.less, c.more)); len(got) != 2 || got[0] != 1 {
			t.Errorf("%s, the other way: %v", c.name, got)
		}
	}
}

// 11.1: losses that would differ only if a sum on the way were rounded.
func TestOrderOfLossesThatAreTheSame(t *testing.T) {
	for _, c := range [][2][]float64{
		{numbers(0x1p53, 0x1p53, 1, 1), numbers(0x1p54, 1, 0x1p53, 1)},
		{numbers(1, 1, 0x1p53, 0x1p53), numbers(0x1p53, 1, 1, -0x1p53)},
		{numbers(1, 0.3, 0.2, 0.1), numbers(-1, 0.1, 0.2, 0.3)},
		{numbers(0x1p80, 1, 1), numbers(0, -2, 0x1p80)},
		{numbers(0x1p80, 1, 1), numbers(1, 1, 1)},
		{numbers(oracle.Max, oracle.Max, 1), numbers(1, oracle.Max, oracle.Max)},
	} {
		expectOrder(t, around(len(c[0]), ids(1, 2), c[0], c[1]), 1, 2)
		expectOrder(t, around(len(c[0]), ids(1, 2), c[1], c[0]), 1, 2)
	}
}

// 11.1: no columns, one, one coordinate (every loss is 0), and as many as there may be.
func TestOrderAtTheEdges(t *testing.T) {
	expectOrder(t, around(1, nil))
	expectOrder(t, around(3, ids(), lists()...))
	expectOrder(t, around(1, ids(0), numbers(5)), 0)
	expectOrder(t, around(2, ids(api.MaxId), numbers(5, 5)), api.MaxId)
	expectOrder(t, around(1, ids(0, 2, 7, api.MaxId), numbers(5), numbers(-oracle.Max), numbers(0), numbers(1)), 0, 2, 7, api.MaxId)
	wide := samples.WideZono(256, 3)
	for i := range 256 {
		wide.G[0][i], wide.G[1][i], wide.G[2][i] = oracle.Max, -oracle.Max, 1
	}
	wide.G[1][255] = oracle.Max - 0x1p971
	expectOrder(t, wide, 4, 2, 0)
}

// 11.1: nothing bad has an order, nor what is no zonotope.
func TestOrderOfNone(t *testing.T) {
	for _, n := range []int{0, 1, 2, 255, 256} {
		expectOrder(t, samples.BadZono(n))
		expectOrder(t, api.Zono{N: n, Bad: true, C: numbers(), Ids: ids(), G: lists(), R: numbers()})
	}
	for _, z := range samples.SpoiltZonos() {
		expectOrder(t, z)
	}
}
