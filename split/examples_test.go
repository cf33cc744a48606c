package split

import (
	"testing"

	"ambit/api"
	"ambit/flow"
	"ambit/samples"
)

// second is the upper half of the second of two symbols.
func second() api.Region { return region(0, 0, 1, 1) }

// 18.1 to 18.4: the chapter's examples 1 to 3.
func TestExamplesOfRegions(t *testing.T) {
	expectWhole(t, 2, region(0, 0, 0, 0))
	expectNoWhole(t, 257)
	expectHalves(t, region(0, 0, 0, 0), 1, region(0, 0, 1, 0), second())
	expectWay(t, second(), 1)
}

// 18.5: the chapter's examples 4 to 6.
func TestExamplesOfEnds(t *testing.T) {
	expectEnds(t, second(), wholes(1, -1), 1, 2, 0)
	expectEnds(t, second(), wholes(0, 0), 2, 0, 2)
	expectNoEnds(t, second(), wholes(0, 0), 0, api.ErrArg)
}

// 18.6: the chapter's example 7, with the network and the question of chapter 16.
func TestExampleOfChoose(t *testing.T) {
	n := api.Net{In: samples.Line(2), Layers: []api.Layer{{Kind: api.KDense, Out: 2, W: numbers(1, 1, 1, -1), B: numbers(0, 0)}}}
	p := api.Prop{C: numbers(0.5, 0.25), G: lists(numbers(1, 0)), K: 2, Looks: 1}
	cube, _ := Whole(1)
	trace, e := flow.Push(n, p, cube, 1)
	if e != api.OK || len(trace.Z) != 2 {
		t.Fatalf("%s %v", text(trace), e)
	}
	expectChoice(t, trace.Z[1], numbers(1, 0, 0), p, cube, 0)
}

// 18.7: the chapter's example 8.
func TestExamplesOfWithin(t *testing.T) {
	expectWithin(t, second(), wholes(0, 0), 0, true)
	expectWithin(t, second(), wholes(0, -1), 0, false)
}
