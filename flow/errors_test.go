package flow

import (
	"fmt"
	"math"
	"slices"
	"testing"

	"ambit/api"
	"ambit/model"
	"ambit/oracle"
	"ambit/samples"
	"ambit/zono"
)

// anyhow are regions of k symbols and others.
func anyhow(k int) []api.Region {
	return []api.Region{samples.Cube(k), samples.Cube(k + 1), {}, region(1, 1), region(9, 0), region(0, -1)}
}

// 16.1: a network that model refuses, whatever is asked of it.
func TestRefusedNetworks(t *testing.T) {
	for _, r := range samples.RefusedNets() {
		for _, p := range []api.Prop{{}, samples.Question(), {C: numbers(1), Target: -9}, {C: numbers(1), G: lists(numbers(1)), Claims: lists(numbers(1, 1)), Target: -1, K: 1, Looks: 1}} {
			for _, region := range anyhow(len(p.G)) {
				call{r.Net, p, region}.expectNone(t, r.Err)
			}
		}
	}
}

// wide is a network of 3 input and 4 output coordinates.
func wide() api.Net { return samples.Network(samples.Line(3), samples.Relu(), samples.Dense(4)) }

// 16.1: a question that model refuses to put to the network, whatever region there is.
func TestRefusedQuestions(t *testing.T) {
	call{wide(), samples.Question(), samples.Cube(5)}.trace(t)
	for _, r := range samples.RefusedProps() {
		for _, region := range anyhow(len(r.Prop.G)) {
			call{wide(), r.Prop, region}.expectNone(t, r.Err)
		}
	}
}

// 16.1: a question is put to the input's and the last output's coordinates, not to those of a layer between.
func TestQuestionsToOtherWidths(t *testing.T) {
	c := call{wide(), samples.Question(), samples.Cube(5)}
	c.n.Layers = c.n.Layers[:1]
	c.expectNone(t, api.ErrCount)
	c.p.Claims, c.p.Target = nil, 3
	c.expectNone(t, api.ErrTarget)
	c.p.Target = 2
	c.trace(t)
	c.n = samples.Network(samples.Line(3), samples.Dense(1))
	c.expectNone(t, api.ErrTarget)
	c.p.Target = 0
	c.expectNone(t, api.ErrTarget)
	c.p.Claims = lists(numbers(1, 0))
	c.trace(t)
	c.n.In = samples.Line(2)
	c.n.Layers[0].W = numbers(1, 2)
	c.expectNone(t, api.ErrCount)
	c.p.C = numbers(1, 2)
	c.expectNone(t, api.ErrCount)
	c.p.G, c.r = nil, region()
	c.trace(t)
}

// 16.1: what is no region of the question's symbols.
func TestNoRegions(t *testing.T) {
	for k := range 4 {
		n := netOf(2, samples.Relu())
		for _, r := range samples.NoRegions(k) {
			call{n, asked(n, 2, numbers(1, 2), samples.Columns(k, 2)...), r}.expectNone(t, api.ErrRegion)
		}
	}
	n := netOf(1)
	for _, r := range []api.Region{{}, {Level: []int{}}, {Level: []int{0}}, {At: []int{0}}, {Level: []int{0}, At: []int{}}, region(0, 0, 0, 0), region(0, 1), region(0, -1), region(8, 256), region(9, 0), region(-1, 0)} {
		call{n, asked(n, 2, numbers(1), numbers(1)), r}.expectNone(t, api.ErrRegion)
	}
	// The whole cube of as many symbols as may be, and what has one more or less.
	all := asked(n, 1, numbers(1), samples.Columns(256, 1)...)
	call{n, all, samples.Cube(256)}.trace(t)
	for _, k := range []int{0, 1, 255, 257, 1000} {
		call{n, all, samples.Cube(k)}.expectNone(t, api.ErrRegion)
	}
}

// 16.1: each level from 0 to MaxDepth has just its places.
func TestLevelsAndPlaces(t *testing.T) {
	n := netOf(1)
	p := asked(n, 2, numbers(1), numbers(1))
	for level := -2; level <= api.MaxDepth+2; level++ {
		for at := -2; at < 1030; at++ {
			want := api.ErrRegion
			if level >= 0 && level <= 8 && at >= 0 && at < []int{1, 2, 4, 8, 16, 32, 64, 128, 256}[level] {
				want = api.OK
			}
			if _, e := Start(n, p, region(level, at)); e != want {
				t.Errorf("level %d, place %d: %v, not %v", level, at, e, want)
			}
		}
	}
}

// 16.2: 1 to MaxWorkers, and no others; behind all errors of Start.
func TestCrewsOutOfBounds(t *testing.T) {
	for _, n := range append(samples.Nets(), wide()) {
		p := samples.QuestionTo(n, 2)
		c := call{n, p, samples.Cube(2)}
		for _, workers := range []int{0, -1, -16, 17, 18, 256, 1 << 32, 1<<32 + 1, -1 << 32, math.MaxInt, math.MinInt} {
			c.expectNoPush(t, workers, api.ErrArg)
		}
		for workers := 1; workers <= api.MaxWorkers; workers++ {
			if x, e := Push(c.n, c.p, c.r, workers); e != api.OK || len(x.Z) != len(n.Layers)+1 {
				t.Errorf("%d: %s %v", workers, text(x), e)
			}
		}
		// A trace that is bad is none the less one.
		c.p.C[0], c.p.G[0][0], c.r = most, most, region(1, 1, 0, 0)
		c.expectNoPush(t, 0, api.ErrArg)
		if x, e := Push(c.n, c.p, c.r, 16); e != api.OK || x.Bad != 0 {
			t.Errorf("%s %v", text(x), e)
		}
	}
}

// Rule 5: where all of it is wrong, each error comes as the ones ahead of it are mended.
func TestOrderOfErrors(t *testing.T) {
	c := call{wide(), samples.Question(), region(9, 0, 0, 1)}
	c.n.Layers[1].B[3] = math.NaN()
	c.p.K, c.p.G[2] = 9, nil
	c.expectNone(t, api.ErrNumber)
	c.n.Layers[1].B[3] = 0
	c.expectNone(t, api.ErrCount)
	c.p.G[2] = samples.Ones(3)
	c.expectNone(t, api.ErrBudget)
	c.p.K = 8
	c.expectNone(t, api.ErrRegion)
	c.r = samples.Cube(5)
	c.r.At[4] = 1
	c.expectNone(t, api.ErrRegion)
	c.r.Level[4] = 1
	c.expectNoPush(t, 17, api.ErrArg)
	if x := c.trace(t); x.Bad != -1 {
		t.Errorf("%s", text(x))
	}
}

// wantError is the first thing by which Start answers nothing.
func wantError(c call) api.Errno {
	shapes, e, _ := model.Shapes(c.n)
	if e != api.OK {
		return e
	}
	in, _ := model.Size(c.n.In)
	out, _ := model.Size(shapes[len(shapes)-1])
	if e, _ := model.CheckProp(c.p, in, out); e != api.OK {
		return e
	}
	k := len(c.p.G)
	if len(c.r.Level) != k || len(c.r.At) != k {
		return api.ErrRegion
	}
	for s, level := range c.r.Level {
		if level < 0 || level > 8 || c.r.At[s] < 0 || c.r.At[s] > 1<<level-1 {
			return api.ErrRegion
		}
	}
	return api.OK
}

// anyCall is one with anything in it, though it is often one that may be.
func anyCall(m *oracle.Mixer) call {
	c := someCall(m, samples.EveryKind(), 0)
	switch m.Below(4) {
	case 0:
		c.n = samples.AnyNet(m)
		if e, _ := model.Check(c.n); e == api.OK {
			c.p = samples.MixedPropTo(m, c.n)
		}
	case 1:
		c.p = samples.AnyProp(m)
	case 2:
		*[]*int{&c.p.Target, &c.p.K, &c.p.Depth, &c.p.Looks}[m.Below(4)] = samples.AnyWhole(m)
	}
	c.r = samples.AnyRegion(m, len(c.p.G))
	return c
}

// 16.1, 16.2, 16.5: whatever is handed in, a call ends, and answers what may be answered, twice the same.
func TestAnythingEnds(t *testing.T) {
	t.Parallel()
	var m oracle.Mixer
	seen := oracle.Tally{}
	for range 4000 {
		c := anyCall(&m)
		want := wantError(c)
		if want != api.OK {
			c.expectNone(t, want)
		} else {
			z, e := Start(c.n, c.p, c.r)
			if e != api.OK || zono.Check(z) != api.OK {
				t.Fatalf("Start(%s): %s %v", text(c), text(z), e)
			}
			c.expectStart(t, z)
		}
		workers := samples.AnyWhole(&m)
		x, e := Push(c.n, c.p, c.r, workers)
		if want == api.OK && (workers < 1 || workers > 16) {
			want = api.ErrArg
		}
		again, f := Push(c.n, c.p, c.r, workers)
		if e != want || f != want || !sameTrace(x, again) || e != api.OK && !sameTrace(x, api.Trace{}) {
			t.Fatalf("Push(%s, %d): %s %v and %s %v, not %v", text(c), workers, text(x), e, text(again), f, want)
		}
		for _, z := range x.Z {
			for _, list := range append(slices.Clone(z.G), z.C, z.R) {
				if zono.Check(z) != api.OK || slices.ContainsFunc(list, func(a float64) bool { return oracle.Same(a, oracle.MinusZero()) }) {
					t.Fatalf("Push(%s, %d): %s", text(c), workers, text(x))
				}
			}
		}
		seen.Note(fmt.Sprint(e), true)
	}
	for _, e := range []api.Errno{api.OK, api.ErrArg, api.ErrRegion, api.ErrCount, api.ErrNumber, api.ErrField, api.ErrShape, api.ErrTarget, api.ErrBudget} {
		seen.Expect(t, 5, fmt.Sprint(e))
	}
}
