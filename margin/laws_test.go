package margin

import (
	"math/big"
	"slices"
	"testing"

	"ambit/act"
	"ambit/api"
	"ambit/flow"
	"ambit/lin"
	"ambit/model"
	"ambit/oracle"
	"ambit/point"
	"ambit/samples"
	"ambit/zono"
)

// lastOf are a network's exact outputs at a point; of KTanh and KSigmoid they are as good as exact.
func lastOf(n api.Net, x []*big.Rat) []*big.Rat { return samples.OutputsAt(n, x)[len(n.Layers)] }

// 17.6: where a trial tells, the claim's exact sum at that point is at most the gap turned round; and it is the first claim that does not hold by as much as a number.
func TestTrialsAreSo(t *testing.T) {
	t.Parallel()
	var m oracle.Mixer
	seen := oracle.Tally{}
	for range 1500 {
		c := few(&m, someCall(&m, samples.EveryKind(), 0), 4)
		claim, gap, ok := Trial(c.n, c.p, c.r, c.signs)
		if !ok {
			continue
		}
		rises := slices.ContainsFunc(c.n.Layers, samples.Rises)
		y := lastOf(c.n, c.place())
		sum := sumOf(c.claims()[claim], y)
		if gap <= 0 || sum.Cmp(oracle.Exact(-gap)) > 0 {
			t.Fatalf("%s: the claim %d is %v, not -%v at most", text(c), claim, sum, gap)
		}
		seen.Note("by spans", rises)
		seen.Note("exact", !rises)
		seen.Note("by more", sum.Cmp(oracle.Exact(-gap)) < 0)
		if rises {
			continue
		}
		if is := oracle.Roundings(sum); is.Number[api.Up] != -gap {
			t.Fatalf("%s: the claim %d is %v, and -%v not the next number", text(c), claim, sum, gap)
		}
		for _, a := range c.claims()[:claim] {
			seen.Note("a claim ahead", true)
			if is := oracle.Roundings(sumOf(a, y)); is.Is[api.Up] && is.Number[api.Up] < 0 {
				t.Fatalf("%s: a claim ahead of %d does not hold", text(c), claim)
			}
		}
	}
	seen.Expect(t, 50, "by spans", "exact", "by more", "a claim ahead")
}

// 17.6: also where spans take the place of what is too long.
func TestLongTrialsAreSo(t *testing.T) {
	t.Parallel()
	var m oracle.Mixer
	told := 0
	for range 40 {
		// Eleven squares of more than 48 bits.
		c := alone(netOf(1, squares(11)...), nil, 1+float64(m.Below(1000)-500)/0x1p52)
		c.p.Claims = lists(numbers(m.Number(0), m.Number(0)))
		claim, gap, ok := Trial(c.n, c.p, c.r, c.signs)
		if !ok {
			continue
		}
		told++
		if sum := sumOf(c.p.Claims[claim], lastOf(c.n, c.place())); sum.Cmp(oracle.Exact(-gap)) > 0 {
			t.Fatalf("%s: the claim's sum is more than -%v", text(c), gap)
		}
	}
	if told < 8 {
		t.Errorf("%d tell only", told)
	}
}

// held is a point that a zonotope holds: one value for each Id, and something of the box.
func held(m *oracle.Mixer, z api.Zono) []*big.Rat {
	e := map[int]*big.Rat{}
	for _, id := range z.Ids {
		e[id] = m.Share()
	}
	y := oracle.Spread(z, e)
	for i, r := range z.R {
		y[i] = plus(y[i], times(m.Share(), oracle.Exact(r)))
	}
	return y
}

// 17.7: at each point that a zonotope holds a claim's sum is at least its margin.
func TestMarginsHoldOverZonotopes(t *testing.T) {
	t.Parallel()
	var m oracle.Mixer
	seen := oracle.Tally{}
	for range 3000 {
		z := samples.MixedZono(&m, 1+m.Below(3))
		a := someClaim(&m, z.N)
		v, ok := Margin(z, a)
		if !ok {
			continue
		}
		for range 3 {
			sum := sumOf(a, held(&m, z))
			if sum.Cmp(oracle.Exact(v)) < 0 {
				t.Fatalf("%s, %v: a sum of %v, below %v", text(z), a, sum, v)
			}
			seen.Note("just so much", sum.Cmp(oracle.Exact(v)) == 0)
			seen.Note("more", sum.Cmp(oracle.Exact(v)) > 0)
		}
	}
	seen.Expect(t, 100, "just so much", "more")
}

// 17.7, 16.4: at exact points of a region a claim's sum is at least the margin of the last zonotope.
func TestMarginsHoldOverRegions(t *testing.T) {
	t.Parallel()
	var m oracle.Mixer
	seen := oracle.Tally{}
	for range 900 {
		c := few(&m, someCall(&m, samples.EveryKind(), 0), 4)
		x, e := flow.Push(c.n, c.p, c.r, 2)
		if e != api.OK {
			t.Fatalf("%s: %v", text(c), e)
		}
		z := x.Z[len(c.n.Layers)]
		if z.Bad {
			continue
		}
		y := lastOf(c.n, c.place())
		worst, least, all := Worst(z, c.claims())
		for i, a := range c.claims() {
			v, ok := Margin(z, a)
			sum := sumOf(a, y)
			if ok && sum.Cmp(oracle.Exact(v)) < 0 {
				t.Fatalf("%s: the claim %d is %v, below %v", text(c), i, sum, v)
			}
			if all && (v < least || i == worst && v != least || sum.Cmp(oracle.Exact(least)) < 0) {
				t.Fatalf("%s: the claim %d, %v, is worse than the worst, %v", text(c), i, v, least)
			}
			seen.Note("just so much", ok && sum.Cmp(oracle.Exact(v)) == 0)
			seen.Note("more", ok && sum.Cmp(oracle.Exact(v)) > 0)
			seen.Note("above 0", ok && v > 0 && len(c.n.Layers) > 0)
		}
		seen.Note("rises", slices.ContainsFunc(c.n.Layers, samples.Rises))
		seen.Note("all", all)
	}
	seen.Expect(t, 50, "just so much", "more", "above 0", "rises", "all")
}

// 17.5 to 17.7, W4: a trial never tells where a margin is above 0.
func TestMarginsAndTrialsAgree(t *testing.T) {
	t.Parallel()
	var m oracle.Mixer
	seen := oracle.Tally{}
	for range 1500 {
		c := few(&m, someCall(&m, samples.EveryKind(), 0), 4)
		x, _ := flow.Push(c.n, c.p, c.r, 1)
		z := x.Z[len(c.n.Layers)]
		at, _, all := Worst(z, c.claims())
		if all && m.Below(2) == 0 {
			c.signs = Signs(z, c.claims()[at], len(c.p.G))
		}
		claim, gap, ok := Trial(c.n, c.p, c.r, c.signs)
		if !ok || z.Bad {
			continue
		}
		v, is := Margin(z, c.claims()[claim])
		if is && v > -gap {
			t.Fatalf("%s: the claim %d has the margin %v and the gap %v", text(c), claim, v, gap)
		}
		seen.Note("both", is)
	}
	seen.Expect(t, 100, "both")
}

// untrimmed are the zonotopes of the whole cube if none is reduced.
func untrimmed(n api.Net, p api.Prop) []api.Zono {
	shapes, _, _ := model.Shapes(n)
	start, _ := flow.Start(n, p, samples.Cube(len(p.G)))
	z, next := zono.Lift(start, len(p.G))
	all := []api.Zono{z}
	for m, l := range n.Layers {
		switch {
		case l.Kind == api.KAdd:
			z = zono.Plus(all[m], all[l.From])
		case l.Kind < api.KRelu:
			z, _ = lin.Step(all[m], l, shapes[m], 1)
		default:
			z = act.Step(all[m], l, shapes[m])
		}
		z, next = zono.Lift(z, next)
		all = append(all, z)
	}
	return all
}

// stays tells whether k and the widths of all layers ahead of each are at most K - 1 times its own.
func stays(n api.Net, p api.Prop) bool {
	shapes, _, _ := model.Shapes(n)
	for m := range n.Layers {
		ahead := len(p.G)
		for _, s := range shapes[1 : m+1] {
			ahead += s.C * s.H * s.W
		}
		own := shapes[m+1]
		if ahead > (p.K-1)*own.C*own.H*own.W {
			return false
		}
	}
	return true
}

// 17.8: no column is trimmed where it says so; elsewhere some are.
func TestNoColumnIsTrimmed(t *testing.T) {
	t.Parallel()
	var m oracle.Mixer
	seen := oracle.Tally{}
	for range 1500 {
		c := someCall(&m, samples.EveryKind(), 1)
		x, _ := flow.Push(c.n, c.p, samples.Cube(len(c.p.G)), 1)
		same := slices.EqualFunc(x.Z, untrimmed(c.n, c.p), samples.SameZono)
		if stays(c.n, c.p) && !same {
			t.Fatalf("%s: a column is trimmed", text(c))
		}
		if _, ok := Idle(c.n, c.p); ok && !same {
			t.Fatalf("%s: a column is trimmed, but Idle tells", text(c))
		}
		seen.Note("none", same && stays(c.n, c.p))
		seen.Note("several layers", same && stays(c.n, c.p) && len(c.n.Layers) > 2)
		seen.Note("some", !same)
	}
	seen.Expect(t, 100, "none", "several layers", "some")
}

// leastOver is the exact least sum of a claim over the cube, of a linear network: the sum at C less what each column changes.
func leastOver(c call, a []float64) *big.Rat {
	centre := exacts(c.p.C)
	sum := sumOf(a, lastOf(c.n, centre))
	total := sum
	for _, g := range c.p.G {
		var moved []*big.Rat
		for i, v := range exacts(g) {
			moved = append(moved, plus(centre[i], v))
		}
		total = minus(total, size(minus(sumOf(a, lastOf(c.n, moved)), sum)))
	}
	return total
}

// settle gives each claim the least constant with which its least sum is above a bound; false, if there is no such number.
func settle(c call, above *big.Rat) bool {
	for _, a := range c.p.Claims {
		a[len(a)-1] = 0
		gap := minus(above, leastOver(c, a))
		is := oracle.Roundings(gap)
		if !is.Is[api.Up] {
			return false
		}
		a[len(a)-1] = is.Number[api.Up]
		if oracle.Exact(is.Number[api.Up]).Cmp(gap) == 0 {
			a[len(a)-1] = oracle.NumberAt(placeOf(is.Number[api.Up]) + 1)
		}
	}
	return true
}

// placeOf is a number's place in the row of all numbers.
func placeOf(a float64) int {
	if a < 0 {
		return -int(api.Bits(-a))
	}
	return int(api.Bits(a + 0))
}

// 17.10, W5: least sums just above what Idle tells are seen: the worst margin is above 0.
func TestLeastSumsAreSeen(t *testing.T) {
	t.Parallel()
	var m oracle.Mixer
	seen := oracle.Tally{}
	for range 3000 {
		c := tame(&m)
		c.p.Target = -1
		told, ok := Idle(c.n, c.p)
		if !ok || !settle(c, oracle.Value(told)) {
			continue
		}
		// With other constants E is the same, unless they go too far.
		again, ok := Idle(c.n, c.p)
		if !ok {
			continue
		}
		if !oracle.SameDyad(told, again) {
			t.Fatalf("%s: %s and %s", text(c), text(told), text(again))
		}
		x, e := flow.Push(c.n, c.p, samples.Cube(len(c.p.G)), 1)
		z := x.Z[len(c.n.Layers)]
		at, least, ok := Worst(z, c.claims())
		if e != api.OK || x.Bad != -1 || !ok || least <= 0 {
			t.Fatalf("%s: %s %v, and the worst is %d with %v %v", text(c), text(x), e, at, least, ok)
		}
		exact := leastOver(c, c.p.Claims[at])
		seen.Note("nothing is lost", wantMargin(z, c.p.Claims[at]).Cmp(exact) == 0)
		seen.Note("something is lost", wantMargin(z, c.p.Claims[at]).Cmp(exact) < 0)
		// A part of what might be lost at most.
		share := times(minus(exact, wantMargin(z, c.p.Claims[at])), whole(64))
		seen.Note("much is lost", len(c.n.Layers) > 0 && share.Cmp(oracle.Value(told)) > 0)
		seen.Note("the least numbers", least < 0x1p-1000)
		seen.Note("great numbers", oracle.Value(told).Cmp(oracle.Power(800)) > 0)
		for _, l := range c.n.Layers {
			seen.Note(kindName(l.Kind), true)
		}
	}
	seen.Expect(t, 20, "nothing is lost", "something is lost", "much is lost", "the least numbers")
	seen.Expect(t, 3, "great numbers")
	for _, k := range samples.LinearKinds() {
		seen.Expect(t, 50, kindName(k))
	}
}

// 17.10: with a target, too: where the exact least sums of all claims are above E, the worst margin is.
func TestLeastSumsOfTargetsAreSeen(t *testing.T) {
	t.Parallel()
	var m oracle.Mixer
	seen := oracle.Tally{}
	for range 1500 {
		c := tame(&m)
		told, ok := Idle(c.n, c.p)
		if !ok {
			continue
		}
		// The last layer's bias puts the target ahead.
		if _, out := samples.Widths(c.n); c.p.Target >= 0 && len(c.n.Layers) > 0 {
			if l := &c.n.Layers[len(c.n.Layers)-1]; l.Kind == api.KDense && len(l.B) == out {
				l.B[c.p.Target] = 0x1p20
				if told, ok = Idle(c.n, c.p); !ok {
					continue
				}
			}
		}
		above := true
		for _, a := range c.claims() {
			above = above && leastOver(c, a).Cmp(oracle.Value(told)) > 0
		}
		x, _ := flow.Push(c.n, c.p, samples.Cube(len(c.p.G)), 1)
		_, least, ok := Worst(x.Z[len(c.n.Layers)], c.claims())
		if above && (!ok || least <= 0) {
			t.Fatalf("%s: all is above %s, but the worst is %v %v", text(c), text(told), least, ok)
		}
		seen.Note("above", above && c.p.Target >= 0 && len(c.n.Layers) > 0)
		seen.Note("not above", !above)
	}
	seen.Expect(t, 10, "above", "not above")
}

// 17.9: what is told is an exact number in its one form, above 0; more to be read or lost never makes it less.
func TestIdleGrows(t *testing.T) {
	t.Parallel()
	var m oracle.Mixer
	grown := 0
	for range 1000 {
		c := tame(&m)
		told, ok := Idle(c.n, c.p)
		if !ok {
			continue
		}
		if point.Check(told) != api.OK || told.Neg || len(told.M) == 0 {
			t.Fatalf("%s: %s", text(c), text(told))
		}
		more := c.p
		more.G = append(slices.Clone(c.p.G), samples.MixedNumbers(&m, len(c.p.C)))
		more.Claims = append(slices.Clone(c.p.Claims), samples.MixedNumbers(&m, len(c.claims()[0])))
		if again, ok := Idle(c.n, more); ok {
			grown++
			if by, _ := point.Cmp(again, told); by < 0 {
				t.Fatalf("%s: %s, and less, %s, of %s", text(c), text(told), text(again), text(more))
			}
		}
	}
	if grown < 100 {
		t.Errorf("%d have grown only", grown)
	}
}
