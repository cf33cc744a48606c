package flow

import (
	"math"
	"runtime"
	"slices"
	"testing"
	"time"

	"ambit/api"
	"ambit/model"
	"ambit/oracle"
	"ambit/samples"
	"ambit/zono"
)

// 16.3, W9: where it is not bad R is 0 everywhere, and behind each layer of width n there are at most K n columns.
func TestTracesAreBounded(t *testing.T) {
	t.Parallel()
	var m oracle.Mixer
	seen := oracle.Tally{}
	for range 1500 {
		c := someCall(&m, samples.EveryKind(), 1)
		if m.Below(2) == 0 {
			c.p.K = 1 + m.Below(2)
		}
		shapes, _, _ := model.Shapes(c.n)
		x := c.trace(t)
		if len(x.Z) != len(shapes) {
			t.Fatalf("%s: %d zonotopes", text(c), len(x.Z))
		}
		for k, z := range x.Z {
			n, _ := model.Size(shapes[k])
			if z.N != n || zono.Check(z) != api.OK || z.Bad != (x.Bad >= 0 && k >= x.Bad) {
				t.Fatalf("%s: the output %d is %s", text(c), k, text(z))
			}
			if slices.ContainsFunc(z.R, func(r float64) bool { return !oracle.Same(r, 0) }) {
				t.Fatalf("%s: the output %d has a box: %s", text(c), k, text(z))
			}
			if k > 0 && len(z.Ids) > c.p.K*n {
				t.Fatalf("%s: the output %d has %d columns, not %d", text(c), k, len(z.Ids), c.p.K*n)
			}
			seen.Note("just as many as may be", k > 0 && !z.Bad && len(z.Ids) == c.p.K*n)
			seen.Note("more ahead of all layers", k == 0 && len(z.Ids) > c.p.K*n)
			seen.Note("fewer", k > 0 && !z.Bad && len(z.Ids) < c.p.K*n)
		}
	}
	seen.Expect(t, 50, "just as many as may be", "more ahead of all layers", "fewer")
}

// 16.4: no Id comes twice: one that is in none of the zonotopes that a layer is told of is greater than all that there were; Next is behind all.
func TestNoIdComesTwice(t *testing.T) {
	t.Parallel()
	var m oracle.Mixer
	seen := oracle.Tally{}
	for range 1500 {
		c := someCall(&m, samples.EveryKind(), 1)
		if m.Below(2) == 0 {
			c.p.K = 1 + m.Below(2)
		}
		x := c.trace(t)
		next := len(c.p.G)
		for k, z := range x.Z {
			old := next
			for _, id := range z.Ids {
				ahead := k > 0 && (slices.Contains(x.Z[k-1].Ids, id) || c.n.Layers[k-1].Kind == api.KAdd && slices.Contains(x.Z[c.n.Layers[k-1].From].Ids, id))
				if ahead || k == 0 && id < len(c.p.G) {
					continue
				}
				if id != next {
					t.Fatalf("%s: the output %d has the Id %d, not %d", text(c), k, id, next)
				}
				next++
			}
			seen.Note("new ones", next > old)
			seen.Note("new ones behind a layer", next > old && k > 1)
			seen.Note("old ones gone", k > 0 && !z.Bad && len(z.Ids)-(next-old) < len(x.Z[k-1].Ids))
		}
		if x.Next != next {
			t.Fatalf("%s: the next one is %d, not %d", text(c), x.Next, next)
		}
	}
	seen.Expect(t, 200, "new ones", "new ones behind a layer", "old ones gone")
}

// 16.5, W7: the same for every number of workers.
func TestEveryCrewTellsTheSame(t *testing.T) {
	t.Parallel()
	var m oracle.Mixer
	for range 150 {
		c := someCall(&m, samples.EveryKind(), 1)
		want, _ := Push(c.n, c.p, c.r, 1)
		for workers := 1; workers <= api.MaxWorkers; workers++ {
			if got, e := Push(c.n, c.p, c.r, workers); e != api.OK || !sameTrace(got, want) {
				t.Fatalf("Push(%s, %d): %s %v, not %s", text(c), workers, text(got), e, text(want))
			}
		}
	}
	n := samples.Network(samples.Shape(4, 4, 4), samples.Dense(64), samples.Relu(), samples.Dense(64), samples.Leaky(0.5), samples.Add(2))
	c := call{n, samples.QuestionTo(n, 6), samples.Cube(6)}
	want := c.trace(t)
	c.expectPush(t, want.Z, want.Next, want.Bad)
}

// 16.5, rule 6: all goroutines have ended, whatever is answered. (This one runs alone: the others have workers too.)
func TestGoroutinesEnd(t *testing.T) {
	before := runtime.NumGoroutine()
	ended := func() bool {
		for range 1000 {
			if runtime.NumGoroutine() <= before {
				return true
			}
			time.Sleep(time.Millisecond)
		}
		return false
	}
	for _, n := range samples.Nets() {
		for _, workers := range []int{0, 1, 16, 17} {
			p := samples.QuestionTo(n, 2)
			for _, great := range []float64{1, most} {
				p.C[0] = great
				Push(n, p, samples.Cube(2), workers)
				if !ended() {
					t.Fatalf("%d goroutines, not %d, behind %s by %d", runtime.NumGoroutine(), before, text(n), workers)
				}
			}
		}
	}
}

// Numbers: the sign of a nought turns nothing.
func TestSignsOfNoughtsTurnNothing(t *testing.T) {
	t.Parallel()
	var m oracle.Mixer
	flip := func(l []float64) []float64 {
		all := slices.Clone(l)
		for i, a := range all {
			if a == 0 {
				all[i] = math.Copysign(0, -math.Copysign(1, a))
			}
		}
		return all
	}
	noughts := 0
	for range 800 {
		c := someCall(&m, samples.EveryKind(), 0)
		p, n := c.p, c.n
		p.C, p.G, n.Layers = flip(p.C), slices.Clone(p.G), slices.Clone(n.Layers)
		for s, g := range p.G {
			p.G[s] = flip(g)
			noughts += len(g) - len(slices.DeleteFunc(slices.Clone(g), func(a float64) bool { return a == 0 }))
		}
		for k, l := range n.Layers {
			n.Layers[k].W, n.Layers[k].B = flip(l.W), flip(l.B)
		}
		want, other := c.trace(t), call{n, p, c.r}.trace(t)
		if !sameTrace(want, other) {
			t.Fatalf("%s: %s, but %s with other signs", text(c), text(want), text(other))
		}
	}
	if noughts < 100 {
		t.Errorf("%d noughts only", noughts)
	}
}
