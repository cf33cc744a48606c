package zono

import (
	"testing"

	"ambit/api"
	"ambit/oracle"
	"ambit/samples"
)

// 10.3: each end is rounded once, outward, and a span is bad for itself alone.
func TestBounds(t *testing.T) {
	max, least := oracle.Max, oracle.Least
	for _, c := range []struct {
		name string
		z    api.Zono
		want []api.Span
	}{
		{"points", point(0, oracle.MinusZero(), 3, -max), []api.Span{{}, {}, {Lo: 3, Hi: 3}, {Lo: -max, Hi: -max}}},
		{"noughts", of(numbers(oracle.MinusZero()), ids(4), lists(numbers(oracle.MinusZero())), numbers(oracle.MinusZero())), []api.Span{{}}},
		{"an end that is 0", of(numbers(1), ids(0), lists(numbers(-1)), numbers(0)), []api.Span{{Lo: 0, Hi: 2}}},
		{"the box alone", of(numbers(1), nil, nil, numbers(least)), []api.Span{{Lo: 1 - 0x1p-53, Hi: 1 + 0x1p-52}}},
		{"parts that are lost one by one", of(numbers(0x1p53), ids(0, 1), lists(numbers(0.5), numbers(-0.5)), numbers(1)), []api.Span{{Lo: 0x1p53 - 2, Hi: 0x1p53 + 2}}},
		{"subnormal parts", of(numbers(least), ids(0, 1), lists(numbers(least), numbers(-least)), numbers(2*least)), []api.Span{{Lo: -3 * least, Hi: 5 * least}}},
		{"none above", of(numbers(max, 1), ids(0), lists(numbers(least, 1)), numbers(0, 0)), []api.Span{{Bad: true}, {Lo: 0, Hi: 2}}},
		{"none below", of(numbers(1, -max), nil, nil, numbers(0, least)), []api.Span{{Lo: 1, Hi: 1}, {Bad: true}}},
		{"a sum of sizes that is none", of(numbers(-max, 0), ids(0), lists(numbers(max, max)), numbers(max, max)), []api.Span{{Bad: true}, {Bad: true}}},
		{"as far as there are numbers", of(numbers(0), ids(0, 1), lists(numbers(-0x1p1023), numbers(0x1p1023-0x1p971)), numbers(0)), []api.Span{{Lo: -max, Hi: max}}},
		{"one step farther", of(numbers(0), ids(0, 1), lists(numbers(-0x1p1023), numbers(0x1p1023-0x1p971)), numbers(least)), []api.Span{{Bad: true}}},
	} {
		expectCheck(t, c.z, api.OK)
		expectSpans(t, c.name, Bounds(c.z), c.want)
	}
}

// 10.4: one rounding of the exact sum.
func TestSupport(t *testing.T) {
	max, least, minus := oracle.Max, oracle.Least, oracle.MinusZero()
	expectSupport(t, point(0, minus), numbers(minus, 5), 0, true)
	expectSupport(t, first(), numbers(0, minus), 0, true)
	expectSupport(t, first(), numbers(-1, -1), -1.5, true)
	expectSupport(t, point(1, 0x1p-60), numbers(1, 1), 1+0x1p-52, true)
	expectSupport(t, point(1, 0x1p-60), numbers(-1, -1), -1, true)
	// Within a column numbers cancel ahead of the absolute value.
	expectSupport(t, of(numbers(0, 0), ids(0), lists(numbers(1, -1)), numbers(0, 0)), numbers(3, 3), 0, true)
	expectSupport(t, of(numbers(0, 0), ids(0, 1), lists(numbers(1, 0), numbers(0, -1)), numbers(0, 0)), numbers(3, 3), 6, true)
	// Products that are no number, whose sum is one.
	expectSupport(t, of(numbers(max, max), ids(0), lists(numbers(max, -max)), numbers(0, 0)), numbers(max, -max), 0, false)
	expectSupport(t, of(numbers(max, max), ids(0), lists(numbers(max, max)), numbers(0, 0)), numbers(max, -max), 0, true)
	expectSupport(t, of(numbers(-max), ids(0), lists(numbers(max)), numbers(least)), numbers(2), least*2, true)
	// Parts below the least number.
	expectSupport(t, of(numbers(0), nil, nil, numbers(least)), numbers(-0.5), least, true)
	expectSupport(t, of(numbers(-least), nil, nil, numbers(0)), numbers(0.5), 0, true)
	expectSupport(t, of(numbers(0), ids(0, 1), lists(numbers(least), numbers(-least)), numbers(0)), numbers(0.5), least, true)
	// Beyond the greatest number there is none; below the least one -Max is not below it.
	expectSupport(t, point(max, least), numbers(1, 1), 0, false)
	expectSupport(t, point(max), numbers(2), 0, false)
	expectSupport(t, point(-max), numbers(2), -max, true)
	expectSupport(t, point(-max, -least), numbers(1, 1), -max, true)
}

// 10.4: a direction of another length, none, and what is no number in every place of it.
func TestSupportRefuses(t *testing.T) {
	for _, z := range ordinary() {
		for _, n := range []int{0, 1, 2, 3, 255, 256, 257} {
			if n != z.N {
				expectSupport(t, z, make([]float64, n), 0, false)
			}
		}
		expectSupport(t, z, nil, 0, false)
		for i := range z.N {
			for _, a := range oracle.NoNumbers() {
				expectSupport(t, z, along(z.N, i, a), 0, false)
			}
		}
	}
	for _, n := range []int{0, 1, 2} {
		expectSupport(t, samples.BadZono(n), make([]float64, n), 0, false)
	}
}
