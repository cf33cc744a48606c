package flow

import (
	"fmt"
	"math/big"
	"testing"

	"ambit/act"
	"ambit/api"
	"ambit/lin"
	"ambit/model"
	"ambit/oracle"
	"ambit/samples"
	"ambit/trim"
	"ambit/zono"
)

// A second start, of exact fractions, and a second push, call by call, by the words of the chapter.

func plus(a, b *big.Rat) *big.Rat { return new(big.Rat).Add(a, b) }

func minus(a, b *big.Rat) *big.Rat { return new(big.Rat).Sub(a, b) }

func times(a, b *big.Rat) *big.Rat { return new(big.Rat).Mul(a, b) }

func size(a *big.Rat) *big.Rat { return new(big.Rat).Abs(a) }

// rounded is the number of a real that has one.
func rounded(d api.Dir, v *big.Rat) float64 { return oracle.Roundings(v).Number[d] }

// wantStart is what Start tells of a call that may be.
func wantStart(c call) api.Zono {
	m, h := samples.Middles(c.r)
	z := plain(make([]float64, len(c.p.C)))
	for s := range c.p.G {
		z.Ids, z.G = append(z.Ids, s), append(z.G, make([]float64, z.N))
	}
	for i := range z.N {
		v := oracle.Exact(c.p.C[i])
		for s, g := range c.p.G {
			v = plus(v, times(m[s], oracle.Exact(g[i])))
		}
		all, to := []*big.Rat{v}, []*float64{&z.C[i]}
		for s, g := range c.p.G {
			all, to = append(all, times(h[s], oracle.Exact(g[i]))), append(to, &z.G[s][i])
		}
		far := new(big.Rat)
		for k, v := range all {
			is := oracle.Roundings(v)
			if !is.Is[api.Near] {
				return samples.BadZono(z.N)
			}
			*to[k] = is.Number[api.Near]
			far = plus(far, size(minus(v, oracle.Exact(*to[k]))))
		}
		is := oracle.Roundings(far)
		if !is.Is[api.Up] {
			return samples.BadZono(z.N)
		}
		z.R[i] = is.Number[api.Up]
	}
	return z
}

// 16.1: the same zonotopes.
func TestTwinOfStarts(t *testing.T) {
	t.Parallel()
	var m oracle.Mixer
	seen := oracle.Tally{}
	for range 2500 {
		c := someCall(&m, samples.EveryKind(), 0)
		want := wantStart(c)
		c.expectStart(t, want)
		if t.Failed() {
			return
		}
		seen.Note("bad", want.Bad)
		seen.Note("no symbols", len(want.Ids) == 0 && !want.Bad)
		for i, r := range want.R {
			seen.Note("a box", r > 0)
			seen.Note("no box", r == 0 && len(want.Ids) > 1)
			for s, g := range want.G {
				seen.Note("a column that loses", oracle.Exact(g[i]).Cmp(times(oracle.Exact(c.p.G[s][i]), oracle.Power(-c.r.Level[s]))) != 0)
			}
		}
	}
	seen.Expect(t, 50, "bad", "no symbols", "a box", "no box", "a column that loses")
}

// 16.1: likewise of every two numbers at which something changes.
func TestTwinOfStartsAtEdges(t *testing.T) {
	t.Parallel()
	all := oracle.Edges()
	for i, a := range all {
		var g, h []float64
		for j := range all {
			g, h = append(g, all[(i+5*j)%len(all)]), append(h, all[(7*i+j)%len(all)])
		}
		for j, b := range all {
			level := (i + j) % 9
			at := []int{0, 1<<level - 1, (1 << level) / 3}[j%3]
			c := bare(numbers(a), lists(numbers(b), numbers(g[j]), numbers(h[j])), region(level, at, 1, i%2, j%3, 0))
			c.expectStart(t, wantStart(c))
		}
		if t.Failed() {
			return
		}
	}
}

// wantPush is what Push tells of a call that may be.
func wantPush(c call, workers int) api.Trace {
	shapes, _, _ := model.Shapes(c.n)
	z, next := zono.Lift(wantStart(c), len(c.p.G))
	x := api.Trace{Z: zonos(z), Next: next, Bad: -1}
	for m := 1; m <= len(c.n.Layers); m++ {
		l, z := c.n.Layers[m-1], x.Z[m-1]
		var told api.Zono
		switch l.Kind {
		case api.KAdd:
			told = zono.Plus(z, x.Z[l.From])
		case api.KDense, api.KConv, api.KScale, api.KMean, api.KTurn:
			told, _ = lin.Step(z, l, shapes[m-1], workers)
		case api.KRelu, api.KLeaky, api.KTanh, api.KSigmoid, api.KSquare, api.KMax:
			told = act.Step(z, l, shapes[m-1])
		}
		lifted, next := zono.Lift(trim.Reduce(told, trim.Cap(c.p.K, told.N)), x.Next)
		x.Z, x.Next = append(x.Z, lifted), next
	}
	for m := len(x.Z) - 1; m >= 0; m-- {
		if x.Z[m].Bad {
			x.Bad = m
		}
	}
	return x
}

// 16.2: the same traces, of each kind at each place.
func TestTwinOfPushes(t *testing.T) {
	t.Parallel()
	var m oracle.Mixer
	seen := oracle.Tally{}
	for range 2500 {
		c := someCall(&m, samples.EveryKind(), 0)
		workers := 1 + m.Below(api.MaxWorkers)
		want := wantPush(c, 1)
		if got, e := Push(c.n, c.p, c.r, workers); e != api.OK || !sameTrace(got, want) {
			t.Fatalf("Push(%s, %d): %s %v, not %s", text(c), workers, text(got), e, text(want))
		}
		last := len(c.n.Layers)
		seen.Note("no layers", last == 0)
		seen.Note("bad input", want.Bad == 0 && last > 0)
		seen.Note("bad behind the first", want.Bad == 1 && last > 1)
		seen.Note("bad in the middle", want.Bad > 1 && want.Bad < last)
		seen.Note("bad behind the last", want.Bad == last && last > 1)
		for k, l := range c.n.Layers {
			good := !want.Z[k+1].Bad
			seen.Note(fmt.Sprintf("kind %d", l.Kind), good)
			seen.Note("a sum with the input", l.Kind == api.KAdd && l.From == 0 && good)
			seen.Note("a sum with a layer", l.Kind == api.KAdd && l.From > 0 && l.From < k && good)
			seen.Note("trimmed", good && len(want.Z[k+1].Ids) > trim.Cap(c.p.K, want.Z[k+1].N))
		}
	}
	seen.Expect(t, 10, "no layers", "bad input", "bad behind the first", "bad in the middle", "bad behind the last", "a sum with the input", "a sum with a layer", "trimmed")
	for _, k := range samples.EveryKind() {
		seen.Expect(t, 50, fmt.Sprintf("kind %d", k))
	}
}

// 16.2: of ordinary networks too, with windows and complex rows, whose symbols are many.
func TestTwinOfOrdinaryNetworks(t *testing.T) {
	for _, n := range samples.Nets() {
		for _, k := range []int{0, 1, 7} {
			for columns := 1; columns <= api.MaxK; columns += 2 {
				p := samples.QuestionTo(n, k)
				p.K = columns
				c := call{n, p, samples.Cube(k)}
				for s := range k {
					c.r.Level[s], c.r.At[s] = s%3, s%2*(s%3)
				}
				want := wantPush(c, 1)
				c.expectPush(t, want.Z, want.Next, want.Bad)
			}
		}
	}
}
