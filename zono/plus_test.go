package zono

import (
	"testing"

	"ambit/api"
	"ambit/oracle"
	"ambit/samples"
)

// 10.7: an Id that one has alone keeps its column, and all Ids rise, however they lie between one another.
func TestPlusMerges(t *testing.T) {
	a := of(numbers(1, 2), ids(0, 4, 9), lists(numbers(1, 1), numbers(2, 2), numbers(3, 3)), numbers(0, 1))
	b := of(numbers(10, 20), ids(2, 4, api.MaxId), lists(numbers(5, oracle.MinusZero()), numbers(6, 7), numbers(8, 9)), numbers(4, oracle.MinusZero()))
	expectPlus(t, a, b, of(numbers(11, 22), ids(0, 2, 4, 9, api.MaxId),
		lists(numbers(1, 1), numbers(5, 0), numbers(8, 9), numbers(3, 3), numbers(8, 9)), numbers(4, 1)))
	expectPlus(t, point(0), point(oracle.MinusZero()), point(0))
	expectPlus(t, point(oracle.MinusZero()), point(oracle.MinusZero()), point(0))
}

// 10.7: no column for an Id whose numbers are all 0: such as cancel, and such as were noughts ahead.
func TestPlusLeavesNoughtsOut(t *testing.T) {
	minus := oracle.MinusZero()
	a := of(numbers(1, 1), ids(1, 2, 3), lists(numbers(5, -5), numbers(5, 5), numbers(0, minus)), numbers(0, 0))
	b := of(numbers(1, 1), ids(1, 2, 4), lists(numbers(-5, 5), numbers(-5, 6), numbers(minus, minus)), numbers(0, 0))
	expectPlus(t, a, b, of(numbers(2, 2), ids(2), lists(numbers(0, 11)), numbers(0, 0)))
	tiny := of(numbers(0), ids(0), lists(numbers(oracle.Least)), numbers(0))
	expectPlus(t, tiny, of(numbers(0), ids(0), lists(numbers(-2*oracle.Least)), numbers(0)), of(numbers(0), ids(0), lists(numbers(-oracle.Least)), numbers(0)))
	expectPlus(t, tiny, of(numbers(0), ids(0), lists(numbers(-oracle.Least)), numbers(0)), point(0))
	expectPlus(t, of(numbers(0), ids(8), lists(numbers(minus)), numbers(0)), point(0), point(0))
}

// 10.7: what roundings take goes into R, all of it with one rounding.
func TestPlusKeepsWhatIsLost(t *testing.T) {
	u := 0x1p-53
	a := of(numbers(1), ids(0, 1), lists(numbers(1), numbers(-1)), numbers(0))
	b := of(numbers(u), ids(0, 1), lists(numbers(u), numbers(-u)), numbers(0))
	expectPlus(t, a, b, of(numbers(1), ids(0, 1), lists(numbers(1), numbers(-1)), numbers(3*u)))
	b.R[0], a.R[0] = 1, 1
	expectPlus(t, a, b, of(numbers(1), ids(0, 1), lists(numbers(1), numbers(-1)), numbers(2+0x1p-51)))
	// Losses of one coordinate don't go into another's R, and those in different directions don't cancel.
	c := of(numbers(1, 0, 1), ids(3), lists(numbers(0, 1+0x1p-52, 1)), numbers(0, 0, 0))
	d := of(numbers(u, 5, 2), ids(3), lists(numbers(0, u, -u/2)), numbers(0, 0, 0))
	expectPlus(t, c, d, of(numbers(1, 5, 3), ids(3), lists(numbers(0, 1+0x1p-51, 1)), numbers(u, u, u/2)))
	// A part that is far below.
	expectPlus(t, point(1), point(oracle.Least), of(numbers(1), nil, nil, numbers(oracle.Least)))
	expectPlus(t, of(numbers(1), nil, nil, numbers(1)), point(oracle.Least), of(numbers(1), nil, nil, numbers(1+0x1p-52)))
}

// 10.7: bad, if the centre, a column's number or R is none, although each part is a number.
func TestPlusIsNone(t *testing.T) {
	max, least := oracle.Max, oracle.Least
	box := func(r float64) api.Zono { return of(numbers(0), nil, nil, numbers(r)) }
	column := func(id int, a float64) api.Zono { return of(numbers(0), ids(id), lists(numbers(a)), numbers(0)) }
	bad := samples.BadZono(1)
	expectPlus(t, point(max), point(max), bad)
	expectPlus(t, point(-max), point(-max), bad)
	expectPlus(t, point(max), point(0x1p970), bad)
	expectPlus(t, point(max), point(0x1p969), of(numbers(max), nil, nil, numbers(0x1p969)))
	expectPlus(t, column(3, max), column(3, max), bad)
	expectPlus(t, column(3, -max), column(3, -0x1p970), bad)
	expectPlus(t, column(3, max), column(4, max), of(numbers(0), ids(3, 4), lists(numbers(max), numbers(max)), numbers(0)))
	expectPlus(t, box(max), box(least), bad)
	expectPlus(t, box(max), box(0), box(max))
	expectPlus(t, box(0x1p1023), box(0x1p1023-0x1p971), box(max))
	// R by what was lost alone is no number any more.
	lossy := of(numbers(1), nil, nil, numbers(max))
	expectPlus(t, lossy, point(least), bad)
	wide := of(numbers(0, 0, max), nil, nil, numbers(0, 0, 0))
	expectPlus(t, wide, wide, samples.BadZono(3))
}

// 10.7: unlike numbers of coordinates.
func TestPlusOfUnlike(t *testing.T) {
	for _, a := range ordinary() {
		for _, b := range ordinary() {
			if a.N != b.N {
				expectPlus(t, a, b, samples.BadZono(0))
			}
		}
		expectPlus(t, a, samples.BadZono(a.N), samples.BadZono(a.N))
		expectPlus(t, a, samples.BadZono(a.N-1), samples.BadZono(0))
	}
}

// 10.7: MaxWidth coordinates, and many columns of which every second one is in both.
func TestPlusWide(t *testing.T) {
	a, b := samples.WideZono(256, 300), samples.WideZono(256, 300)
	for k := range b.Ids {
		b.Ids[k] = 3 * k
	}
	got := Plus(a, b)
	seen := map[int]int{}
	for _, id := range append(append(ids(), a.Ids...), b.Ids...) {
		seen[id]++
	}
	if len(got.Ids) != len(seen) || Check(got) != api.OK || got.Bad {
		t.Errorf("%d columns, not %d", len(got.Ids), len(seen))
	}
	for k, id := range got.Ids {
		if id == 6 && got.G[k][0] != a.G[3][0]+b.G[2][0] || id == 9 && got.G[k][0] != b.G[3][0] || id == 2 && got.G[k][0] != a.G[1][0] {
			t.Errorf("the column %d begins with %v", id, got.G[k][0])
		}
	}
}
