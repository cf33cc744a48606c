package act

import (
	"testing"

	"ambit/api"
	"ambit/oracle"
	"ambit/samples"
)

// 13.1: the chapter's examples.
func TestExamplesOfBends(t *testing.T) {
	expectBend(t, samples.Relu(), between(-1, 3), 0.75, between(0, 0.75))
	expectBend(t, samples.Relu(), between(-2, 0), 0, between(0, 0))
	expectBend(t, samples.Relu(), between(0, 5), 1, between(0, 0))
	expectBend(t, samples.Relu(), between(0, 0), 0, between(0, 0))
	expectBend(t, samples.Leaky(0.5), between(-2, 2), 0.75, between(0, 0.5))
	expectBend(t, kind(api.KSquare), between(1, 3), 4, between(-4, -3))
	expectBend(t, kind(api.KSquare), between(-1, 1), 0, between(0, 1))
	expectNoBend(t, window(1, 1, 1, 1, 0, 0), between(0, 1))
	expectNoBend(t, samples.Relu(), api.Span{Bad: true})
	expectNoBend(t, kind(api.KSquare), between(oracle.Max, oracle.Max))
}

// 13.2: the chapter's examples.
func TestExamplesOfSteps(t *testing.T) {
	expectStep(t, one(1, 2), samples.Relu(), samples.Line(1), of(numbers(1.125), ids(0), lists(numbers(1.5)), numbers(0.375)))
	expectStep(t, one(-4, 2), samples.Relu(), samples.Line(1), point(0))
	pair := window(1, 2, 1, 1, 0, 0)
	expectStep(t, of(numbers(0, 5), ids(0, 4), lists(numbers(1, 0), numbers(0, 1)), numbers(0, 0.5)), pair, samples.Line(2),
		of(numbers(5), ids(4), lists(numbers(1)), numbers(0.5)))
	expectStep(t, of(numbers(0, 1), ids(0), lists(numbers(2, 0)), numbers(0, 0)), pair, samples.Line(2), boxed(numbers(1.5), numbers(0.5)))
}
