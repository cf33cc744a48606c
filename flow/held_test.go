package flow

import (
	"fmt"
	"math/big"
	"slices"
	"testing"

	"ambit/api"
	"ambit/oracle"
	"ambit/samples"
)

// alone is the one coordinate at which a column is not 0; -1, if there is none, or more than one.
func alone(g []float64) int {
	at := -1
	for i, a := range g {
		if a != 0 && at >= 0 {
			return -1
		}
		if a != 0 {
			at = i
		}
	}
	return at
}

// hit finds values of z's Ids that have none yet, so that z is just y; false, if there are none such from -1 to 1. What is new in a trace stands at one coordinate alone, so that there is but one choice.
func hit(z api.Zono, values map[int]*big.Rat, y []*big.Rat) bool {
	columns := make([][]float64, z.N)
	fresh := make([]int, z.N)
	for k, id := range z.Ids {
		if values[id] != nil {
			continue
		}
		i := alone(z.G[k])
		if i < 0 || columns[i] != nil {
			return false
		}
		columns[i], fresh[i], values[id] = z.G[k], id, new(big.Rat)
	}
	put := oracle.Spread(z, values)
	for i, v := range y {
		off := minus(v, put[i])
		if columns[i] != nil {
			off.Quo(off, oracle.Exact(columns[i][i]))
			values[fresh[i]] = off
			if size(off).Cmp(big.NewRat(1, 1)) > 0 {
				return false
			}
		} else if off.Sign() != 0 {
			return false
		}
	}
	return true
}

// expectHeld holds a trace, as far as it is not bad, to one value for each Id, so that each zonotope is just the exact output at a point of the region. It tells how many layers that were.
func expectHeld(t *testing.T, c call, x api.Trace, shares []*big.Rat) int {
	t.Helper()
	outputs := samples.OutputsAt(c.n, samples.PointAt(c.p, c.r, shares))
	values := map[int]*big.Rat{}
	for s, v := range shares {
		values[s] = v
	}
	for m, z := range x.Z {
		if z.Bad {
			return m - 1
		}
		if !hit(z, values, outputs[m]) {
			t.Fatalf("%s: at %v the output %d is not held by %s", text(c), shares, m, text(z))
		}
	}
	return len(x.Z) - 1
}

func someShares(m *oracle.Mixer, k int) []*big.Rat {
	var all []*big.Rat
	for range k {
		all = append(all, m.Share())
	}
	return all
}

// few is a call of at most so many layers, so that exact values stay short.
func few(c call, layers int) call {
	if len(c.n.Layers) > layers {
		c.n.Layers = c.n.Layers[:layers]
		_, out := samples.Widths(c.n)
		c.p.Target, c.p.Claims = -1, samples.Columns(1, out+1)
	}
	return c
}

// W2, 16.4: of points of the region, its corners among them, each zonotope holds the exact output, with one value for each Id of the trace.
func TestTracesHold(t *testing.T) {
	t.Parallel()
	var m oracle.Mixer
	seen := oracle.Tally{}
	for range 700 {
		c := few(someCall(&m, samples.EveryKind(), 1), 4)
		x := c.trace(t)
		points := 2
		if slices.ContainsFunc(c.n.Layers, samples.Rises) {
			points = 1
		}
		for range points {
			held := expectHeld(t, c, x, someShares(&m, len(c.p.G)))
			for k, l := range c.n.Layers[:max(held, 0)] {
				seen.Note(fmt.Sprintf("kind %d", l.Kind), true)
				seen.Note("a sum with the input", l.Kind == api.KAdd && l.From == 0 && k > 0)
				seen.Note("a sum with a layer", l.Kind == api.KAdd && l.From > 0 && l.From < k)
			}
			seen.Note("all of several layers", held == len(c.n.Layers) && held > 2)
			seen.Note("up to a bad one", held < len(c.n.Layers) && held > 0)
			seen.Note("something was lost", x.Next > len(c.p.G))
			seen.Note("halved", slices.ContainsFunc(c.r.Level, func(level int) bool { return level > 0 }))
		}
	}
	seen.Expect(t, 5, "a sum with the input", "a sum with a layer")
	seen.Expect(t, 20, "all of several layers", "up to a bad one", "something was lost", "halved")
	for _, k := range samples.EveryKind() {
		seen.Expect(t, 20, fmt.Sprintf("kind %d", k))
	}
}

// W2, 16.4: of a network with a layer of each kind.
func TestChainHolds(t *testing.T) {
	t.Parallel()
	n := samples.Network(samples.Shape(2, 1, 2), samples.Windowed(api.KConv, 1, 2, 1, 1, 0, 1), kind(api.KScale), samples.Windowed(api.KMean, 1, 2, 1, 1, 0, 0), samples.Add(0), samples.Relu(),
		samples.Windowed(api.KMax, 1, 1, 1, 1, 0, 0), samples.Turn(1), samples.Leaky(0.25), samples.Dense(2), kind(api.KSquare), kind(api.KTanh), kind(api.KSigmoid))
	var m oracle.Mixer
	for columns := 1; columns <= 3; columns++ {
		p := samples.QuestionTo(n, 2)
		p.K = columns
		c := call{n, p, region(1, 0, 2, 3)}
		x := c.trace(t)
		if held := expectHeld(t, c, x, someShares(&m, 2)); held != len(n.Layers) {
			t.Errorf("%d layers are held only", held)
		}
	}
}

// along is the sum of d[i] times a point's coordinates.
func along(d []float64, x []*big.Rat) *big.Rat {
	sum := new(big.Rat)
	for i, a := range d {
		sum = plus(sum, times(oracle.Exact(a), x[i]))
	}
	return sum
}

// farthest is d times C, and over all columns the sum of |d g|, and that of |d| R.
func farthest(d []float64, z api.Zono) *big.Rat {
	exact := func(l []float64) []*big.Rat {
		var all []*big.Rat
		for _, a := range l {
			all = append(all, oracle.Exact(a))
		}
		return all
	}
	sum := along(d, exact(z.C))
	for _, g := range z.G {
		sum = plus(sum, size(along(d, exact(g))))
	}
	for i, r := range z.R {
		sum = plus(sum, size(times(oracle.Exact(d[i]), oracle.Exact(r))))
	}
	return sum
}

// W2, 16.4: for all numbers d: d times the exact output goes no farther than a zonotope of the trace.
func TestTracesGoAsFar(t *testing.T) {
	t.Parallel()
	var m oracle.Mixer
	seen := oracle.Tally{}
	for range 600 {
		c := someCall(&m, samples.ExactKinds(), 1)
		x := c.trace(t)
		outputs := samples.OutputsAt(c.n, samples.PointAt(c.p, c.r, someShares(&m, len(c.p.G))))
		for k, z := range x.Z {
			if z.Bad {
				break
			}
			for range 3 {
				d := samples.MixedNumbers(&m, z.N)
				sum, far := along(d, outputs[k]), farthest(d, z)
				if sum.Cmp(far) > 0 {
					t.Fatalf("%s: along %v the output %d goes farther than %s", text(c), d, k, text(z))
				}
				seen.Note("just so far", sum.Cmp(far) == 0 && k > 0)
				seen.Note("less far", sum.Cmp(far) < 0 && k > 0)
			}
		}
	}
	seen.Expect(t, 100, "just so far", "less far")
}

// halves are the two halves of a region, at a symbol that may be halved.
func halves(r api.Region, s int) [2]api.Region {
	var both [2]api.Region
	for k := range both {
		half := api.Region{Level: slices.Clone(r.Level), At: slices.Clone(r.At)}
		half.Level[s], half.At[s] = half.Level[s]+1, 2*half.At[s]+k
		both[k] = half
	}
	return both
}

// 16.6: a point of a half is held by the half's trace, and by the whole's; one in the middle by both halves'.
func TestHalvesAndTheWholeHold(t *testing.T) {
	t.Parallel()
	var m oracle.Mixer
	seen := oracle.Tally{}
	for range 500 {
		c := few(someCall(&m, samples.ExactKinds(), 1), 3)
		if len(c.p.G) == 0 {
			continue
		}
		s := m.Below(len(c.p.G))
		if c.r.Level[s] == api.MaxDepth {
			c.r.Level[s], c.r.At[s] = c.r.Level[s]-1, c.r.At[s]/2
		}
		whole := c.trace(t)
		both := halves(c.r, s)
		for k, side := range []int64{-1, 1} {
			half := call{c.n, c.p, both[k]}
			part := half.trace(t)
			shares := someShares(&m, len(c.p.G))
			held := expectHeld(t, half, part, shares)
			middle := shares[s].Cmp(big.NewRat(-side, 1)) == 0
			// Half as far from the half's middle, which lies at -1/2 or 1/2.
			shares[s] = times(plus(shares[s], big.NewRat(side, 1)), big.NewRat(1, 2))
			all := expectHeld(t, c, whole, shares)
			seen.Note("both hold", held == len(c.n.Layers) && all == held)
			seen.Note("the middle", middle)
			if middle {
				shares[s] = big.NewRat(side, 1)
				other := call{c.n, c.p, both[1-k]}
				expectHeld(t, other, other.trace(t), shares)
			}
		}
	}
	seen.Expect(t, 30, "both hold", "the middle")
}

// 16.7: no symbols: the exact outputs at C are held.
func TestPointsAreHeld(t *testing.T) {
	t.Parallel()
	var m oracle.Mixer
	seen := oracle.Tally{}
	for range 400 {
		c := few(someCall(&m, samples.EveryKind(), 1), 4)
		c.p.G, c.r = nil, region()
		x := c.trace(t)
		seen.Note("held", expectHeld(t, c, x, nil) == len(c.n.Layers))
		seen.Note("just the point", x.Bad == -1 && x.Next == 0)
		seen.Note("about the point", x.Bad == -1 && x.Next > 0)
	}
	seen.Expect(t, 30, "held", "just the point", "about the point")
}

// 16.7: with small whole numbers a linear network tells the point itself.
func TestPointsOfWholeNumbers(t *testing.T) {
	threefold := api.Layer{Kind: api.KScale, W: numbers(-3, -3), B: numbers(1, 1)}
	turn := api.Layer{Kind: api.KTurn, Out: 1, Z: []complex128{1 + 2i}, ZB: []complex128{3 - 4i}}
	n := netOf(2, dense(numbers(1, 2, 3, 4), numbers(5, 6)), samples.Add(1), threefold, turn, samples.Relu())
	c := call{n, asked(n, 1, numbers(7, -2)), region()}
	// 8 and 19; 16 and 38; -47 and -113; (1 + 2i) (-47 - 113i) + 3 - 4i.
	c.expectPush(t, zonos(plain(numbers(7, -2)), plain(numbers(8, 19)), plain(numbers(16, 38)), plain(numbers(-47, -113)), plain(numbers(-47+226+3, -113-94-4)), plain(numbers(182, 0))), 0, -1)
}
