package zono

import (
	"testing"

	"ambit/api"
	"ambit/oracle"
	"ambit/samples"
)

// 10.1: the chapter's example.
func TestExampleCheck(t *testing.T) {
	swapped, below := first(), first()
	swapped.Ids = ids(3, 0)
	below.R = numbers(0, -1)
	expectCheck(t, first(), api.OK)
	expectCheck(t, swapped, api.ErrZono)
	expectCheck(t, below, api.ErrZono)
	expectCheck(t, samples.BadZono(2), api.OK)
}

// 10.2: the chapter's examples.
func TestExampleNew(t *testing.T) {
	expect(t, "New", New(numbers(oracle.MinusZero()), lists(numbers(1), numbers(0))), of(numbers(0), ids(0, 1), lists(numbers(1), numbers(0)), numbers(0)))
	expect(t, "New of nothing", New(numbers(), lists()), samples.BadZono(0))
	expect(t, "New of a long column", New(numbers(1), lists(numbers(1, 2))), samples.BadZono(0))
}

// 10.3: the chapter's example.
func TestExampleBounds(t *testing.T) {
	expectSpans(t, "Bounds", Bounds(first()), []api.Span{{Lo: -1, Hi: 3}, {Lo: 0.5, Hi: 3.5}})
}

// 10.4: the chapter's examples.
func TestExampleSupport(t *testing.T) {
	expectSupport(t, first(), numbers(1, 1), 4.5, true)
	expectSupport(t, first(), numbers(1, 0), 3, true)
	expectSupport(t, first(), numbers(-1, 0), 1, true)
	expectSupport(t, first(), numbers(1), 0, false)
}

// 10.5: the chapter's examples.
func TestExampleLift(t *testing.T) {
	expectLift(t, first(), 4, of(numbers(1, 2), ids(0, 3, 4), lists(numbers(1, 0), numbers(1, -1), numbers(0, 0.5)), numbers(0, 0)), 5)
	expectLift(t, first(), 3, samples.BadZono(2), 3)
	expectLift(t, samples.BadZono(2), 9, samples.BadZono(2), 9)
}

// 10.6: the chapter's example.
func TestExampleBox(t *testing.T) {
	expect(t, "Box", Box(first()), of(numbers(1, 2), nil, nil, numbers(2, 1.5)))
}

// 10.7: the chapter's examples.
func TestExamplePlus(t *testing.T) {
	expectPlus(t, first(), first(), of(numbers(2, 4), ids(0, 3), lists(numbers(2, 0), numbers(2, -2)), numbers(0, 1)))
	other := of(numbers(0, 0), ids(3), lists(numbers(-1, 1)), numbers(0, 0))
	expectPlus(t, first(), other, of(numbers(1, 2), ids(0), lists(numbers(1, 0)), numbers(0, 0.5)))
	one, little := of(numbers(1), nil, nil, numbers(0)), of(numbers(0x1p-53), nil, nil, numbers(0))
	expectPlus(t, one, little, of(numbers(1), nil, nil, numbers(0x1p-53)))
	expectPlus(t, first(), one, samples.BadZono(0))
}
