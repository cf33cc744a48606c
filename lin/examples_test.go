package lin

import (
	"testing"

	"ambit/api"
	"ambit/oracle"
	"ambit/samples"
)

// 12.1: the chapter's examples.
func TestExamplesOfImages(t *testing.T) {
	expectImage(t, of(numbers(1, 2), ids(0), lists(numbers(1, -1)), numbers(0, 0)), numbers(1, 1), 0.5, 3.5, numbers(0), 0)
	expectImage(t, of(numbers(1, 2), ids(0), lists(numbers(1, -1)), numbers(0.5, 0)), numbers(-2, 1), 0, 0, numbers(-3), 1)
	expectImage(t, of(numbers(1), ids(0), lists(numbers(0x1p-60)), numbers(0)), numbers(1+0x1p-52), 0x1p-53, 1+0x1p-51, numbers(0x1p-60+0x1p-112), 0x1p-53)
	expectNoImage(t, point(oracle.Max), numbers(2), 0)
}

// 12.2: the chapter's examples.
func TestExamplesOfSteps(t *testing.T) {
	in := samples.Line(2)
	two := dense(numbers(1, 1, 1, -1), numbers(0, 0))
	expectStep(t, first(), two, in, of(numbers(0.75, 0.25), ids(0), lists(numbers(1, 1)), numbers(0, 0)))
	expectStep(t, first(), dense(numbers(0, 1), numbers(0)), in, point(0.25))
	expectNoStep(t, first(), samples.Relu(), in, 1, api.ErrKind)
	expectNoStep(t, first(), two, in, 0, api.ErrArg)
	expectStep(t, point(0, 0, 0), two, in, samples.BadZono(2))
	expectStep(t, of(numbers(1, 2), ids(5), lists(numbers(0, 1)), numbers(0, 0)), turn([]complex128{1i}, []complex128{0}), in,
		of(numbers(-2, 1), ids(5), lists(numbers(-1, 0)), numbers(0, 0)))
}
