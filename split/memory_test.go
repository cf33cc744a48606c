package split

import (
	"slices"
	"testing"

	"ambit/api"
	"ambit/samples"
)

// memoryRegions are regions with and without symbols, and some that are none.
func memoryRegions() []api.Region {
	return []api.Region{{}, region(0, 0), region(0, 0, 1, 1, 3, 2), region(8, 255, 0, 0), samples.Cube(256), region(1, 2), samples.Cube(257)}
}

func scribbleRegion(r api.Region) {
	samples.Scribble(r.Level, 44)
	samples.Scribble(r.At, 45)
}

// 18.9, rule 3: what is handed in stays, with the room behind it, and the room tells nothing.
func TestRegionsStay(t *testing.T) {
	for _, ordinary := range memoryRegions() {
		r, k := samples.RoomyRegion(ordinary), len(ordinary.Level)
		before := samples.WholeRegion(r)
		signs := samples.Roomy(make([]int, k), 7)
		for s := -1; s <= 3; s++ {
			Check(r, s)
			a, b, e := Halve(r, s)
			c, d, f := Halve(ordinary, s)
			if e != f || !samples.SameRegion(a, c) || !samples.SameRegion(b, d) {
				t.Errorf("%s: the room behind a region tells something", text(ordinary))
			}
			scribbleRegion(a)
			scribbleRegion(b)
		}
		Check(r, k)
		Way(r)
		for depth := range 10 {
			ends, _ := Ends(r, signs, depth)
			samples.Scribble(ends, 46)
			Within(r, signs, depth)
		}
		if !samples.SameRegion(samples.WholeRegion(r), before) {
			t.Errorf("%s: what was given is changed, or a part of an answer", text(ordinary))
		}
		if want := samples.Roomy(make([]int, k), 7); !slices.Equal(samples.Whole(signs), samples.Whole(want)) {
			t.Errorf("%s: the signs are changed", text(ordinary))
		}
	}
}

// 18.1, 18.9, rule 3: the whole cube is new memory, each time.
func TestWholeIsNew(t *testing.T) {
	for _, k := range []int{0, 1, 5, 256} {
		got, _ := Whole(k)
		want := samples.WholeRegion(got)
		scribbleRegion(got)
		again, _ := Whole(k)
		if !samples.SameRegion(samples.WholeRegion(again), want) {
			t.Errorf("Whole(%d): an answer was kept", k)
		}
		expectSharing(t, got, again)
	}
}

// expectSharing holds regions to having no memory in common, neither with each other nor their own lists.
func expectSharing(t *testing.T, regions ...api.Region) {
	t.Helper()
	var all [][]int
	for _, r := range regions {
		all = append(all, r.Level, r.At)
	}
	if i := samples.Sharing(all, func(i int) int { return i + 1 }); i >= 0 {
		t.Errorf("the list %d shares memory", i)
	}
}

// 18.3, 18.9, rule 3: no two lists of both halves share any memory, even if those that were handed in do; nothing is kept.
func TestHalvesShareNothing(t *testing.T) {
	same := samples.Roomy(wholes(0, 0, 0), 9)
	r := api.Region{Level: same, At: same}
	for s := range 3 {
		lower, upper, e := Halve(r, s)
		if e != api.OK {
			t.Fatal(e)
		}
		want, high := samples.WholeRegion(lower), samples.WholeRegion(upper)
		expectSharing(t, lower, upper)
		again, above, _ := Halve(r, s)
		if !samples.SameRegion(samples.WholeRegion(again), want) || !samples.SameRegion(samples.WholeRegion(above), high) {
			t.Errorf("Halve at %d: an answer was kept", s)
		}
		expectSharing(t, lower, upper, again, above)
	}
	if !slices.Equal(samples.Whole(same)[:6], wholes(0, 0, 0, 9, 9, 9)) {
		t.Errorf("what was handed in is now %v", samples.Whole(same))
	}
}

// 18.5, 18.9, rule 3: what Ends tells is new memory, even of signs that are the region's own lists.
func TestEndsAreNew(t *testing.T) {
	same := samples.Roomy(wholes(0, 0, 0), 9)
	for _, signs := range [][]int{same, wholes(1, -1, 0)} {
		r := api.Region{Level: same, At: same}
		got, e := Ends(r, signs, 3)
		want := slices.Clone(samples.Whole(got))
		samples.Scribble(got, 55)
		again, f := Ends(r, signs, 3)
		if e != api.OK || f != api.OK || !slices.Equal(samples.Whole(again), want) {
			t.Errorf("an answer was kept: %v, not %v", again, want)
		}
		if samples.Sharing([][]int{got, again, same}, func(i int) int { return i + 1 }) >= 0 {
			t.Error("an answer shares memory")
		}
		copy(samples.Whole(same), wholes(0, 0, 0, 9, 9, 9))
	}
}

// 18.6, 18.9, rule 3: what Choose is handed stays, with the room behind it, which tells nothing.
func TestArgumentsOfChooseStay(t *testing.T) {
	spoilt := samples.RoomyZono()
	spoilt.Ids[0] = 99
	bad := api.Zono{N: 3, Bad: true, C: make([]float64, 0, 4), G: make([][]float64, 0, 4)}
	for _, z := range []api.Zono{samples.RoomyZono(), samples.RoomyWideZono(3, 0), bad, spoilt} {
		for _, claim := range lists(numbers(1, 2, -3, 4), numbers(0, 0, 0, 1), numbers(1), nil) {
			for _, pairs := range [][]int{{0, 0, 1, 1, 2, 3, 0, 0, 8, 7}, {0, 0, 0, 0, 0, 0, 0, 0, 0, 0}, {9, 9}, nil} {
				p, r, a := samples.RoomyProp(), samples.RoomyRegion(region(pairs...)), samples.Roomy(claim, 5)
				zBefore, pBefore, rBefore, aBefore := samples.WholeZono(z), samples.WholeProp(p), samples.WholeRegion(r), slices.Clone(samples.Whole(a))
				got := Choose(z, a, p, r)
				if !samples.SameZono(samples.WholeZono(z), zBefore) || !samples.SameProp(samples.WholeProp(p), pBefore) || !samples.SameRegion(samples.WholeRegion(r), rBefore) || !samples.SameNumbers(samples.Whole(a), aBefore) {
					t.Errorf("Choose(%s, %v, %s, %s): what was given is changed", text(z), a, text(p), text(r))
				}
				expectChoice(t, z, claim, samples.Question(), region(pairs...), got)
			}
		}
	}
}

// Rule 1: nil and empty lists mean the same.
func TestEmptyListsAreAsNil(t *testing.T) {
	for _, l := range [][]int{nil, {}} {
		for _, at := range [][]int{nil, {}} {
			r := api.Region{Level: l, At: at}
			expectCheck(t, r, 0, api.OK)
			expectWay(t, r, 0)
			expectNoHalves(t, r, 0, api.ErrArg)
			expectEnds(t, r, l, 4)
			expectNoEnds(t, r, l, 9, api.ErrArg)
			expectWithin(t, r, at, 4, true)
			expectChoice(t, of(1, wholes(0), numbers(1)), numbers(1, 0), api.Prop{}, r, -1)
			expectChoice(t, api.Zono{}, []float64{}, api.Prop{G: [][]float64{}}, r, -1)
		}
	}
}
