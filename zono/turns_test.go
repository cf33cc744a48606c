package zono

import (
	"math"
	"testing"

	"ambit/api"
	"ambit/oracle"
	"ambit/samples"
)

// 10.5: a column for each R above 0, in their order, and noughts make none.
func TestLift(t *testing.T) {
	minus := oracle.MinusZero()
	z := of(numbers(minus, 2, 3, 4), ids(1, 2), lists(numbers(1, minus, 0, 1), numbers(0, 0, minus, 0)), numbers(oracle.Least, minus, 5, 0))
	expectLift(t, z, 7, of(numbers(0, 2, 3, 4), ids(1, 2, 7, 8),
		lists(numbers(1, 0, 0, 1), numbers(0, 0, 0, 0), numbers(oracle.Least, 0, 0, 0), numbers(0, 0, 5, 0)), numbers(0, 0, 0, 0)), 9)
	expectLift(t, of(numbers(1), nil, nil, numbers(oracle.Max)), 0, of(numbers(1), ids(0), lists(numbers(oracle.Max)), numbers(0)), 1)
	expectLift(t, of(numbers(minus), ids(0), lists(numbers(minus)), numbers(minus)), 1, of(numbers(0), ids(0), lists(numbers(0)), numbers(0)), 1)
	wide := samples.WideZono(256, 1)
	for i := range wide.R {
		wide.R[i] = 1
	}
	got, next := Lift(wide, 100)
	if next != 356 || len(got.Ids) != 257 || got.Ids[256] != 355 || got.G[256][255] != 1 || Check(got) != api.OK {
		t.Errorf("%d, and %d Ids", next, len(got.Ids))
	}
}

// 10.5: next just above all Ids, and not above them; and where there are none.
func TestLiftNext(t *testing.T) {
	z := of(numbers(1), ids(0, 6), lists(numbers(1), numbers(2)), numbers(3))
	for _, next := range []int{math.MinInt, -1, 0, 1, 5, 6} {
		expectLift(t, z, next, samples.BadZono(1), next)
	}
	for _, next := range []int{7, 8, 1000, api.MaxId - 1, api.MaxId} {
		expectLift(t, z, next, of(numbers(1), ids(0, 6, next), lists(numbers(1), numbers(2), numbers(3)), numbers(0)), next+1)
	}
	bare := of(numbers(1), nil, nil, numbers(3))
	for _, next := range []int{math.MinInt, -1} {
		expectLift(t, bare, next, samples.BadZono(1), next)
	}
	expectLift(t, bare, 0, of(numbers(1), ids(0), lists(numbers(3)), numbers(0)), 1)
}

// 10.5: Ids past MaxId: the last one counts, not the first.
func TestLiftPastMaxId(t *testing.T) {
	z := of(numbers(1, 2, 3), nil, nil, numbers(1, 0, 2))
	for _, next := range []int{api.MaxId, api.MaxId + 1, math.MaxInt - 1, math.MaxInt} {
		expectLift(t, z, next, samples.BadZono(3), next)
	}
	expectLift(t, z, api.MaxId-1, of(numbers(1, 2, 3), ids(api.MaxId-1, api.MaxId), lists(numbers(1, 0, 0), numbers(0, 0, 2)), numbers(0, 0, 0)), api.MaxId+1)
	full := of(numbers(1), ids(api.MaxId), lists(numbers(1)), numbers(1))
	for _, next := range []int{api.MaxId, api.MaxId + 1, math.MaxInt} {
		expectLift(t, full, next, samples.BadZono(1), next)
	}
}

// 10.5: where no R is above 0 no Id is given, so that none is above MaxId; but next must be above all Ids all the same.
func TestLiftOfNoBox(t *testing.T) {
	z := of(numbers(1), ids(0, api.MaxId), lists(numbers(1), numbers(2)), numbers(oracle.MinusZero()))
	same := of(numbers(1), ids(0, api.MaxId), lists(numbers(1), numbers(2)), numbers(0))
	for _, next := range []int{api.MaxId + 1, api.MaxId + 2, math.MaxInt} {
		expectLift(t, z, next, same, next)
	}
	for _, next := range []int{api.MaxId, 1, 0, -1, math.MinInt} {
		expectLift(t, z, next, samples.BadZono(1), next)
	}
	for _, next := range []int{0, api.MaxId, math.MaxInt} {
		expectLift(t, point(1, 2), next, point(1, 2), next)
	}
	expectLift(t, point(1, 2), -1, samples.BadZono(2), -1)
}

// 10.6: one rounding upward of all sizes, and bad, if there is none.
func TestBox(t *testing.T) {
	max, least, minus := oracle.Max, oracle.Least, oracle.MinusZero()
	for _, c := range []struct {
		name    string
		z, want api.Zono
	}{
		{"no columns", of(numbers(minus, 2), nil, nil, numbers(minus, 3)), of(numbers(0, 2), nil, nil, numbers(0, 3))},
		{"columns of noughts", of(numbers(1), ids(3, 9), lists(numbers(minus), numbers(0)), numbers(0)), point(1)},
		{"columns that cancel", of(numbers(1), ids(0, 1), lists(numbers(2), numbers(-2)), numbers(0.5)), of(numbers(1), nil, nil, numbers(4.5))},
		{"a sum between two numbers", of(numbers(1), ids(0, 1), lists(numbers(1), numbers(0x1p-60)), numbers(0x1p-60)), of(numbers(1), nil, nil, numbers(1+0x1p-52))},
		{"parts that are lost one by one", of(numbers(1), ids(0, 1), lists(numbers(0x1p53), numbers(1)), numbers(1)), of(numbers(1), nil, nil, numbers(0x1p53+2))},
		{"subnormal parts", of(numbers(1), ids(0), lists(numbers(-least)), numbers(2*least)), of(numbers(1), nil, nil, numbers(3*least))},
		{"as far as there are numbers", of(numbers(max), ids(0), lists(numbers(-max+0x1p971)), numbers(0x1p971)), of(numbers(max), nil, nil, numbers(max))},
		{"one step farther", of(numbers(0), ids(0), lists(numbers(-max)), numbers(least)), samples.BadZono(1)},
		{"one of three", of(numbers(0, 0, 0), ids(0, 1), lists(numbers(0, max, 0), numbers(0, max, 0)), numbers(0, 0, 0)), samples.BadZono(3)},
	} {
		expectCheck(t, c.z, api.OK)
		expect(t, c.name, Box(c.z), c.want)
	}
}
