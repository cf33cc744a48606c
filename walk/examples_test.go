package walk

import (
	"math"
	"testing"

	"ambit/api"
	"ambit/oracle"
	"ambit/samples"
)

// 15.1: the chapter's example.
func TestExampleOfPoints(t *testing.T) {
	expectPoints(t, numbers(1, oracle.MinusZero(), math.NaN()), join(points(1, 0), bads(1)))
}

// 15.2: the chapter's examples.
func TestExamplesOfSteps(t *testing.T) {
	one, two := samples.Line(1), samples.Line(2)
	expectStep(t, dense(3, 1, -2), two, spans(0, 1, 0, 1), spans(1, 4))
	expectStep(t, dense(0, 1, 0), two, join(spans(0, 1), bads(1)), bads(1))
	expectSum(t, one, spans(0, 1), spans(2, 5), spans(2, 6))
	call{samples.Add(0), one, spans(0, 1), nil}.expect(t, nil)
	expectStep(t, samples.Relu(), two, spans(-1, 2, -3, -2), spans(0, 2, 0, 0))
	expectStep(t, samples.Leaky(0.5), one, spans(-1, 2), spans(-0.5, 2))
	expectStep(t, kind(api.KSquare), one, spans(-1, 2), spans(0, 4))
	expectStep(t, pool(2, 1, 0), two, spans(0, 3, 1, 2), spans(1, 3))
}

// 15.3: the chapter's examples.
func TestExamplesOfEval(t *testing.T) {
	one, square := samples.Line(1), kind(api.KSquare)
	expectEval(t, netOf(one, square, square), points(0x1p600), bads(1), 1)
	expectEval(t, netOf(one), spans(1, 2), spans(1, 2), -1)
	expectNoEval(t, netOf(one), nil, api.ErrCount, 0)
}
