package flow

import (
	"slices"
	"testing"

	"ambit/api"
	"ambit/samples"
)

// roomy is a call with more behind the end of each of its lists.
func roomy(c call) call {
	return call{samples.RoomyNetOf(c.n), samples.RoomyPropOf(c.p), samples.RoomyRegion(c.r)}
}

// whole is a copy of a call in which the room behind each list counts as a part of it.
func (c call) whole() call {
	return call{samples.WholeNet(c.n), samples.WholeProp(c.p), samples.WholeRegion(c.r)}
}

func (c call) same(d call) bool {
	return samples.SameNet(c.n, d.n) && samples.SameProp(c.p, d.p) && samples.SameRegion(c.r, d.r)
}

// scribble writes all over a call's lists of numbers, behind their ends too.
func (c call) scribble() {
	numbers, pairs := samples.Lists(c.n)
	for _, l := range slices.Concat(numbers, c.p.G, c.p.Claims, lists(c.p.C)) {
		samples.Scribble(l, -5)
	}
	for _, l := range pairs {
		samples.Scribble(l, -6i)
	}
	samples.Scribble(c.r.Level, 1)
	samples.Scribble(c.r.At, 1)
}

// wholeTrace is a copy of a trace in which the room behind each list counts as a part of it.
func wholeTrace(x api.Trace) api.Trace {
	x.Z = slices.Clone(samples.Whole(x.Z))
	for m, z := range x.Z {
		x.Z[m] = samples.WholeZono(z)
	}
	return x
}

// scribbleTrace writes all over a trace, behind the ends of its lists too.
func scribbleTrace(x api.Trace) {
	for _, z := range samples.Whole(x.Z) {
		samples.ScribbleZono(z)
	}
	samples.Scribble(x.Z, api.Zono{N: 99})
}

// memoryCalls are ordinary calls of each kind, without layers, without symbols, and with something bad; and some that are refused.
func memoryCalls() []call {
	var all []call
	for _, n := range samples.Nets() {
		for _, k := range []int{0, 3} {
			p := samples.QuestionTo(n, k)
			for i := range p.C {
				p.C[i] = float64(i%3) - 0.5
			}
			all = append(all, call{n, p, samples.Cube(k)})
		}
	}
	c := first()
	c.r = region(8, 3)
	bad := first()
	bad.p.C, bad.p.G, bad.r = numbers(1, most), lists(numbers(1, most)), region(1, 1)
	late := first()
	late.p.G = lists(numbers(0x1p1023, 0x1p1023))
	lost := first()
	lost.p.G, lost.r = lists(numbers(least, least)), region(3, 2)
	refused := first()
	refused.r = region(3, 8)
	return append(all, c, bad, late, lost, refused)
}

// 16.5, rule 3: what is handed in stays, with the room behind it; whoever writes into an answer, or into what was handed in, changes nothing of the other.
func TestArgumentsOfPushStay(t *testing.T) {
	for _, ordinary := range memoryCalls() {
		for _, workers := range []int{1, 16, 17} {
			c := roomy(ordinary)
			before := c.whole()
			got, e := Push(c.n, c.p, c.r, workers)
			want := wholeTrace(got)
			scribbleTrace(got)
			if !c.whole().same(before) {
				t.Errorf("%s by %d: what was given is changed, or a part of the answer", text(ordinary), workers)
			}
			again, f := Push(c.n, c.p, c.r, workers)
			c.scribble()
			if e != f || !sameTrace(wholeTrace(again), want) {
				t.Errorf("%s by %d: what was given is kept, or an answer was", text(ordinary), workers)
			}
		}
	}
}

// 16.5, rule 3: of Start too.
func TestArgumentsOfStartStay(t *testing.T) {
	for _, ordinary := range memoryCalls() {
		c := roomy(ordinary)
		before := c.whole()
		got, e := Start(c.n, c.p, c.r)
		want := samples.WholeZono(got)
		samples.ScribbleZono(got)
		if !c.whole().same(before) {
			t.Errorf("%s: what was given is changed, or a part of the answer", text(ordinary))
		}
		again, f := Start(c.n, c.p, c.r)
		c.scribble()
		if e != f || !samples.SameZono(samples.WholeZono(again), want) {
			t.Errorf("%s: what was given is kept, or an answer was", text(ordinary))
		}
	}
}

// 16.5, rule 3: no two lists of one answer share any memory, even if those that were handed in do.
func TestListsShareNothing(t *testing.T) {
	same := numbers(1, 2, 3, 4)
	n := netOf(4, samples.Relu(), scale(1, 0), samples.Leaky(1), samples.Add(0), samples.Windowed(api.KMax, 1, 1, 1, 1, 0, 0), samples.Add(5))
	c := call{n, asked(n, 8, same, same, same, same), region(0, 0, 0, 0, 0, 0)}
	level := []int{0, 0, 0}
	c.r = api.Region{Level: level, At: level}
	for _, workers := range crews() {
		x, e := Push(c.n, c.p, c.r, workers)
		if e != api.OK || x.Bad != -1 {
			t.Fatalf("%s %v", text(x), e)
		}
		z, e := Start(c.n, c.p, c.r)
		if e != api.OK || z.Bad {
			t.Fatalf("%s %v", text(z), e)
		}
		var all [][]float64
		var ids [][]int
		for _, z := range append(slices.Clone(samples.Whole(x.Z)), z) {
			all = append(append(all, samples.Whole(z.G)...), z.C, z.R)
			ids = append(ids, z.Ids)
		}
		one, two := samples.Sharing(all, func(i int) float64 { return float64(i) }), samples.Sharing(ids, func(i int) int { return i })
		if one >= 0 || two >= 0 {
			t.Errorf("%s: the list %d or the Ids %d share memory", text(x), one, two)
		}
	}
	if !samples.SameNumbers(same, numbers(1, 2, 3, 4)) || !slices.Equal(level, []int{0, 0, 0}) {
		t.Errorf("what was handed in is now %v and %v", same, level)
	}
}

// Rule 1: nil and empty lists mean the same, and the room behind lists tells nothing.
func TestRoomTurnsNothing(t *testing.T) {
	for _, c := range memoryCalls() {
		want, e := Push(c.n, c.p, c.r, 1)
		d := roomy(c)
		if got, f := Push(d.n, d.p, d.r, 3); e != f || !sameTrace(got, want) {
			t.Errorf("%s: %s %v, not %s %v", text(c), text(got), f, text(want), e)
		}
	}
	n := netOf(2)
	n.Layers, n.Names = []api.Layer{}, []string{}
	c := call{n, asked(n, 2, numbers(1, 2)), api.Region{Level: []int{}, At: []int{}}}
	c.p.G = [][]float64{}
	c.expectPush(t, zonos(plain(numbers(1, 2))), 0, -1)
	c.n.Layers, c.n.Names, c.p.G, c.r = nil, nil, nil, api.Region{}
	c.expectPush(t, zonos(plain(numbers(1, 2))), 0, -1)
}
