package margin

import (
	"math"
	"math/big"
	"slices"
	"testing"

	"ambit/api"
	"ambit/elem"
	"ambit/oracle"
	"ambit/samples"
)

// 17.5: every sign of one symbol, at every place of every level: the point is the middle, or an end.
func TestTrialAtEverySign(t *testing.T) {
	// The output is 256 e, the claim that it is above 256: it fails by 256 - 256 e.
	n := netOf(1, scale(0x1p-3, 0))
	p := asked(lists(numbers(1, -256)), numbers(0), numbers(0x1p11))
	for level := range api.MaxDepth + 1 {
		parts := 1 << level
		for at := range parts {
			for sign := -1; sign <= 1; sign++ {
				c := call{n, p, region(level, at), signs(sign)}
				e := -1 + float64(2*at+1+sign)/float64(parts)
				if e == 1 {
					c.expectNone(t)
				} else {
					c.expect(t, 0, 256-256*e)
				}
			}
		}
	}
}

// 17.5: several symbols, each with its own sign, level and place.
func TestTrialOfSeveralSymbols(t *testing.T) {
	n := netOf(2)
	p := asked(lists(numbers(1, 1, -1000)), numbers(5, 7), numbers(1, 0), numbers(0, 10), numbers(100, 100))
	for i := range 27 {
		at := signs(i%3-1, i/3%3-1, i/9-1)
		// The middles are 0, 1/2 and -3/4.
		v := 12 + float64(at[0]) + 10*(0.5+0.5*float64(at[1])) + 200*(-0.75+0.25*float64(at[2]))
		call{n, p, region(0, 0, 1, 1, 2, 0), at}.expect(t, 0, 1000-v)
	}
}

// 17.5: no symbols: the point is C.
func TestTrialOfNoSymbols(t *testing.T) {
	n := netOf(2, dense(numbers(1, 1, 1, -1), numbers(0, 0)))
	for _, at := range [][]int{nil, {}} {
		c := alone(n, lists(numbers(1, -1, 0), numbers(-1, 0, 2)), 3, 1)
		c.signs = at
		// The outputs are 4 and 2.
		c.expect(t, 1, 2)
		c.p.C = numbers(1, -1)
		c.expect(t, 0, 2)
		c.p.C = numbers(1, 0.5)
		c.expectNone(t)
	}
	alone(netOf(1), lists(numbers(1, 0)), -3).expect(t, 0, 3)
	alone(netOf(1), lists(numbers(1, 0)), 3).expectNone(t)
}

// 17.5: the first claim that tells, in the order of the claims: the target's ahead of the further ones.
func TestTrialTellsTheFirstClaim(t *testing.T) {
	c := alone(netOf(3), lists(numbers(0, 0, 1, -1), numbers(0, 0, 1, -9)), 5, 3, 4)
	c.expect(t, 1, 5)
	c.p.Claims[0][3] = -4.5
	c.expect(t, 0, 0.5)
	// The target 0 is the greatest; the target 2 is not above the class 0, the target 1 above none.
	c.p.Target = 0
	c.expect(t, 2, 0.5)
	c.p.Target = 2
	c.expect(t, 0, 1)
	c.p.Target = 1
	c.expect(t, 0, 2)
	c.p.C[0] = 2
	c.expect(t, 1, 1)
	c.p.C[2] = 2.5
	c.expect(t, 2, 2)
	c.p.Claims = nil
	c.expectNone(t)
}

// 17.5: a sum of just 0 is not above 0, but tells nothing: there is no gap; nor does what lies between 0 and the least number turned round.
func TestTrialAtNought(t *testing.T) {
	alone(netOf(1), lists(numbers(1, -1)), 1).expectNone(t)
	alone(netOf(1), lists(numbers(1, 0)), oracle.MinusZero()).expectNone(t)
	alone(netOf(1), lists(numbers(0, oracle.MinusZero())), 7).expectNone(t)
	alone(netOf(1), lists(numbers(1, -1)), 1-0x1p-53).expect(t, 0, 0x1p-53)
	alone(netOf(1), lists(numbers(1, -1)), 1+0x1p-52).expectNone(t)
	alone(netOf(1), lists(numbers(-1, 0)), least).expect(t, 0, least)
	alone(netOf(1), lists(numbers(-0.5, 0)), least).expectNone(t)
	alone(netOf(1), lists(numbers(-1.5, 0)), least).expect(t, 0, least)
	alone(netOf(1), lists(numbers(-2, 0)), least).expect(t, 0, 2*least)
	alone(netOf(1), lists(numbers(-least, 0)), least).expectNone(t)
}

// 17.5: the gap is rounded once, toward 0; past the greatest number it is that.
func TestTrialRoundsOnce(t *testing.T) {
	alone(netOf(2), lists(numbers(-1, -1, 0)), 1, 0x1p-60).expect(t, 0, 1)
	alone(netOf(2), lists(numbers(-1, 1, 0)), 1, 0x1p-60).expect(t, 0, 1-0x1p-53)
	alone(netOf(2), lists(numbers(-1, -1, -0x1p-53)), 1, 0x1p-53).expect(t, 0, 1+0x1p-52)
	alone(netOf(2), lists(numbers(-1, -1, 0)), most, most).expect(t, 0, most)
	alone(netOf(2), lists(numbers(-1, -1, most)), most, most).expect(t, 0, most)
	alone(netOf(2), lists(numbers(-1, 1, -3)), most, most).expect(t, 0, 3)
	alone(netOf(2), lists(numbers(1, 1, 0), numbers(-most, 0, 0)), most, most).expect(t, 1, most)
	// Nothing is rounded on the way: 10 times a tenth is more than 1, by 2^-54.
	n := netOf(1, scale(10, -1), scale(-0x1p54, 0))
	alone(n, lists(numbers(1, 0)), 0.1).expect(t, 0, 1)
	// A point past the greatest number is one all the same.
	c := call{netOf(1, scale(0x1p-10, 0)), asked(lists(numbers(-1, 0)), numbers(most), numbers(most)), region(0, 0), signs(1)}
	c.expect(t, 0, most/512)
	c.p.G = lists(numbers(0x1p970))
	c.expect(t, 0, most/1024)
}

// sigmoids are bounds of the sigmoid of a number, told by the layer that knows it.
func sigmoids(a float64) api.Span { return elem.Of(api.KSigmoid, samples.Between(a, a)) }

// 17.5: with a KTanh or a KSigmoid the outputs are held by spans: of each the greater product.
func TestTrialOverSpans(t *testing.T) {
	n := netOf(1, kind(api.KSigmoid))
	s := sigmoids(-0.25)
	gap := func(v *big.Rat) float64 { return oracle.Roundings(v).Number[api.Down] }
	// s - 1/2 is at most Hi - 1/2; 1/4 - s is at most 1/4 - Lo.
	alone(n, lists(numbers(1, -0.5)), -0.25).expect(t, 0, gap(minus(oracle.Exact(0.5), oracle.Exact(s.Hi))))
	alone(n, lists(numbers(-1, 0.25)), -0.25).expect(t, 0, gap(minus(oracle.Exact(s.Lo), oracle.Exact(0.25))))
	alone(n, lists(numbers(-3, 0.25)), -0.25).expect(t, 0, gap(minus(times(oracle.Exact(3), oracle.Exact(s.Lo)), oracle.Exact(0.25))))
	alone(n, lists(numbers(1, -0.25), numbers(-1, 0.5), numbers(0, -1)), -0.25).expect(t, 2, 1)
	// A sum that might be 0 tells nothing: the span goes to it, or beyond.
	alone(n, lists(numbers(1, -s.Hi)), -0.25).expectNone(t)
	alone(n, lists(numbers(1, -s.Lo)), -0.25).expectNone(t)
	alone(n, lists(numbers(-1, s.Lo)), -0.25).expectNone(t)
	alone(n, lists(numbers(-1, s.Hi)), -0.25).expectNone(t)
	up := math.Nextafter(s.Hi, 1)
	alone(n, lists(numbers(1, -up)), -0.25).expect(t, 0, up-s.Hi)
	// Where the span is a point all is as it is without spans.
	alone(netOf(1, kind(api.KTanh)), lists(numbers(1, -1)), 0).expect(t, 0, 1)
	alone(netOf(1, kind(api.KTanh)), lists(numbers(1, 0)), 0).expectNone(t)
	// Sums over spans go past the greatest number and back, too.
	alone(carried(2), lists(numbers(-1, -1, most)), most, most).expect(t, 0, most)
	alone(carried(2), lists(numbers(-1, -1, 0)), most, most).expect(t, 0, most)
	alone(carried(2), lists(numbers(1, 1, 0), numbers(-1, 1, -3)), most, most).expect(t, 1, 3)
}

// carried is a network that tells its input, but with a KTanh on the way: so its outputs are the spans around the point.
func carried(width int) api.Net {
	return netOf(width, kind(api.KTanh), scale(0, 0), samples.Add(0))
}

// 17.5: each coordinate of the point is held by the span from down to up.
func TestTrialHoldsThePoint(t *testing.T) {
	above, below := lists(numbers(1, -2)), lists(numbers(-1, 0))
	for _, x := range []struct{ column, lo, hi float64 }{{0x1p-60, 1, 1 + 0x1p-52}, {-0x1p-60, 1 - 0x1p-53, 1}, {0, 1, 1}, {0x1p-52, 1 + 0x1p-52, 1 + 0x1p-52}, {-least, 1 - 0x1p-53, 1}} {
		for _, sign := range []int{-1, 1} {
			c := call{carried(1), asked(above, numbers(1), numbers(x.column*float64(sign))), region(0, 0), signs(sign)}
			c.expect(t, 0, 2-x.hi)
			c.p.Claims = below
			c.expect(t, 0, x.lo)
		}
	}
	// One rounding of the exact point: each column alone would be lost.
	c := call{carried(1), asked(below, numbers(1), numbers(0x1p-53), numbers(0x1p-53)), region(0, 0, 0, 0), signs(1, 1)}
	c.expect(t, 0, 1+0x1p-52)
}

// 17.5: with spans nothing tells where the point has no numbers around it; without them it does.
func TestTrialOfPointsBeyondNumbers(t *testing.T) {
	c := call{netOf(2, scale(0x1p-20, 0)), asked(lists(numbers(0, 0, -1)), numbers(1, most), numbers(0, 0x1p971)), region(0, 0), signs(1)}
	c.expect(t, 0, 1)
	c.n.Layers = append(c.n.Layers, kind(api.KTanh))
	c.expectNone(t)
	c.signs = signs(0)
	c.expect(t, 0, 1)
	// down tells a number, up none; and the other way round.
	c.p.G = lists(numbers(0, least))
	c.signs = signs(1)
	c.expectNone(t)
	c.signs = signs(-1)
	c.expect(t, 0, 1)
	c.p.C = numbers(-most, 1)
	c.p.G = lists(numbers(least, 0))
	c.expectNone(t)
	c.signs = signs(1)
	c.expect(t, 0, 1)
}

// 17.5: nothing tells where a span is bad, though the outputs don't hang on it.
func TestTrialWithABadSpan(t *testing.T) {
	// The square of 2^600 is none; the window of the last layer but one takes the other coordinate alone.
	first := samples.Windowed(api.KMax, 1, 1, 1, 2, 0, 0)
	n := netOf(2, kind(api.KSquare), first, kind(api.KTanh))
	claims := lists(numbers(0, -1))
	alone(n, claims, 1, 0x1p500).expect(t, 0, 1)
	alone(n, claims, 1, 0x1p600).expectNone(t)
	n.Layers[2] = samples.Relu()
	alone(n, claims, 1, 0x1p600).expect(t, 0, 1)
	// Behind the last layer, and behind the first of several.
	alone(netOf(1, kind(api.KTanh), scale(most, most)), claims, 1).expectNone(t)
	alone(netOf(1, kind(api.KTanh), scale(most, 0)), claims, 1).expect(t, 0, 1)
	alone(netOf(1, scale(2, 0), kind(api.KTanh), scale(0, 0)), claims, most).expectNone(t)
	alone(netOf(1, scale(1, 0), kind(api.KTanh), scale(0, 0)), claims, most).expect(t, 0, 1)
}

// squares are so many KSquares.
func squares(n int) []api.Layer { return slices.Repeat([]api.Layer{kind(api.KSquare)}, n) }

// 17.5: where exact numbers grow too long, spans take their place.
func TestTrialOfWhatGrowsTooLong(t *testing.T) {
	// 53 bits, squared ten times, are 54,272 bits; once more, and they are too many.
	long := netOf(1, squares(10)...)
	c := alone(long, lists(numbers(-1, 1)), 1+0x1p-52)
	claim, gap, way := wantTrial(c)
	if way != "exact" || claim != 0 {
		t.Fatalf("%d %v %s", claim, gap, way)
	}
	c.expect(t, 0, gap)
	c.n = netOf(1, squares(11)...)
	claim, gap, way = wantTrial(c)
	if way != "spans" || claim != 0 {
		t.Fatalf("%d %v %s", claim, gap, way)
	}
	c.expect(t, 0, gap)
	// (1 + 2^-52)^2048 is a little more than 1 + 2^-41; each span's lower end is 1 and a whole number of steps.
	if gap != 0x1p-41 {
		t.Errorf("%x", gap)
	}
	// The other end is farther off than the exact value: what it tells is less.
	c.p.Claims = lists(numbers(1, -2))
	_, spans, _ := wantTrial(c)
	c.expect(t, 0, spans)
	if spans >= 1-0x1p-41 {
		t.Errorf("%x", spans)
	}
	// A power of 2 that is too small: from 0 to the least number.
	tiny := alone(netOf(1, squares(7)...), lists(numbers(-1, 0), numbers(1, -1)), 0x1p-600)
	tiny.expect(t, 1, 1-0x1p-53)
	// One that is too great: bad.
	alone(netOf(1, squares(7)...), lists(numbers(-1, 0)), 0x1p600).expectNone(t)
	alone(netOf(1, squares(6)...), lists(numbers(-1, 0)), 0x1p600).expect(t, 0, most)
}

// 17.5: a claim whose sum is too long tells nothing; the next one may.
func TestTrialOfClaimsThatAreTooLong(t *testing.T) {
	// The output is 2^-65536: with 1 it makes 65,536 bits, half of it one more.
	n := netOf(1, append(squares(6), samples.Relu())...)
	tooLong, fits := numbers(0.5, -1), numbers(1, -1)
	alone(n, lists(tooLong), 0x1p-1024).expectNone(t)
	alone(n, lists(fits), 0x1p-1024).expect(t, 0, 1-0x1p-53)
	alone(n, lists(tooLong, fits), 0x1p-1024).expect(t, 1, 1-0x1p-53)
	alone(n, lists(tooLong, tooLong, numbers(1, 0)), 0x1p-1024).expectNone(t)
	// With spans each of them tells: nothing is too long there.
	n.Layers = append(n.Layers, kind(api.KTanh))
	alone(n, lists(tooLong, fits), 0x1p-1024).expect(t, 0, 1-0x1p-53)
}

// 17.5: as many symbols, outputs and claims as may be.
func TestTrialOfTheWidest(t *testing.T) {
	n := api.Net{In: samples.Shape(1, 16, 16)}
	c := call{n, asked(samples.Columns(64, 257), make([]float64, 256), samples.Columns(256, 256)...), samples.Cube(256), make([]int, 256)}
	c.p.Target = 255
	c.expectNone(t)
	for s := range c.signs {
		c.signs[s] = -1
	}
	// All outputs are -256: the target is above none, by 0; each further claim's sum is -65,536 and 1.
	c.expect(t, 255, 65535)
	c.p.C[255] = -1
	c.expect(t, 0, 1)
	c.p.Target = -1
	c.expect(t, 0, 65536)
}

// ordinary is a call that tells, of a network of 3 input and 4 output coordinates.
func ordinary(layers ...api.Layer) call {
	n := samples.Network(samples.Line(3), append(layers, samples.Dense(4))...)
	p := samples.Question()
	p.Claims[0] = numbers(0, 0, 0, 0, -1)
	return call{n, p, samples.Cube(5), signs(1, 0, -1, 1, 0)}
}

// tells tells whether a trial does.
func (c call) tells() bool {
	_, _, ok := Trial(c.n, c.p, c.r, c.signs)
	return ok
}

// 17.5: networks, questions and regions that are refused.
func TestTrialsThatAreRefused(t *testing.T) {
	for _, layer := range []api.Layer{samples.Relu(), kind(api.KTanh)} {
		c := ordinary(layer)
		if !c.tells() {
			t.Fatalf("%s tells nothing", text(c))
		}
		for _, r := range samples.RefusedProps() {
			d := c
			d.p = r.Prop
			d.r, d.signs = samples.Cube(len(d.p.G)), make([]int, len(d.p.G))
			d.expectNone(t)
		}
		for _, r := range samples.NoRegions(5) {
			d := c
			d.r = r
			d.expectNone(t)
		}
	}
	for _, r := range samples.RefusedNets() {
		for _, p := range []api.Prop{{}, asked(lists(numbers(0, -1)), numbers(1)), asked(lists(numbers(0, 0, -1)), numbers(1, 1))} {
			call{r.Net, p, api.Region{}, nil}.expectNone(t)
		}
	}
}

// 17.5: as many signs as symbols, each -1, 0 or 1.
func TestSignsThatAreNone(t *testing.T) {
	for _, layer := range []api.Layer{samples.Relu(), kind(api.KTanh)} {
		c := ordinary(layer)
		for s := range c.signs {
			for _, sign := range []int{2, -2, 3, 256, 255, 1 << 32, 1<<32 + 1, -1 << 32, math.MaxInt, math.MinInt} {
				d := c
				d.signs = slices.Clone(c.signs)
				d.signs[s] = sign
				d.expectNone(t)
			}
		}
		for _, l := range [][]int{nil, {}, {0}, {0, 0, 0, 0}, {0, 0, 0, 0, 0, 0}, make([]int, 256)} {
			d := c
			d.signs = l
			d.expectNone(t)
		}
	}
}
