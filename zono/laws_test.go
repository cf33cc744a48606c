package zono

import (
	"fmt"
	"math"
	"math/big"
	"slices"
	"testing"

	"ambit/api"
	"ambit/oracle"
	"ambit/samples"
)

// someBox is a real from -R[i] to R[i] for each coordinate.
func someBox(m *oracle.Mixer, z api.Zono) []*big.Rat {
	var l []*big.Rat
	for _, r := range z.R {
		l = append(l, times(m.Share(), exact(r)))
	}
	return l
}

// someValues are values from -1 to 1 of all Ids that one of some zonotopes has.
func someValues(m *oracle.Mixer, all ...api.Zono) map[int]*big.Rat {
	e := map[int]*big.Rat{}
	for _, z := range all {
		for _, id := range z.Ids {
			e[id] = m.Share()
		}
	}
	return e
}

// pointOf is the point that z holds at values of its Ids and something of its box.
func pointOf(z api.Zono, e map[int]*big.Rat, r []*big.Rat) []*big.Rat {
	l := oracle.Spread(z, e)
	for i := range l {
		l[i] = plus(l[i], r[i])
	}
	return l
}

// sumAlong is the sum of d[i] times a point's coordinates.
func sumAlong(d []float64, x []*big.Rat) *big.Rat {
	sum := new(big.Rat)
	for i := range d {
		sum = plus(sum, times(exact(d[i]), x[i]))
	}
	return sum
}

// laws goes through mixed zonotopes, each with a direction.
func laws(rounds int, law func(m *oracle.Mixer, z api.Zono, d []float64)) {
	var m oracle.Mixer
	for range rounds {
		z := samples.MixedZono(&m, 1+m.Below(3))
		d := samples.MixedNumbers(&m, z.N)
		if m.Below(2) == 0 {
			for i := range d {
				d[i] = m.Number(0)
			}
		}
		law(&m, z, d)
	}
	for _, z := range ordinary() {
		law(&m, z, samples.Counted(z.N))
	}
}

// behindAll is the least number that no Id of z has, and none behind it.
func behindAll(z api.Zono) int {
	if len(z.Ids) == 0 {
		return 0
	}
	return z.Ids[len(z.Ids)-1] + 1
}

// 10.9: Lift turns no support and no point.
func TestLiftTurnsNoSet(t *testing.T) {
	lifts := 0
	laws(3000, func(m *oracle.Mixer, z api.Zono, d []float64) {
		next := behindAll(z)
		y, behind := Lift(z, next)
		if y.Bad {
			return
		}
		lifts++
		far, ok := Support(z, d)
		expectSupport(t, y, d, far, ok)
		e, r := someValues(m, z), someBox(m, z)
		want := pointOf(z, e, r)
		for i, a := range z.R {
			if a > 0 {
				e[next] = new(big.Rat).Quo(r[i], exact(a))
				next++
			}
		}
		if next != behind {
			t.Errorf("Lift of %s goes on from %d, not from %d on", text(z), behind, next)
		}
		if got := oracle.Spread(y, e); !slices.EqualFunc(got, want, func(a, b *big.Rat) bool { return a.Cmp(b) == 0 }) {
			t.Errorf("Lift of %s at %v and %v: %v, not %v", text(z), e, r, got, want)
		}
	})
	if lifts < 1500 {
		t.Errorf("%d were lifted only", lifts)
	}
}

// 10.9: bounds are supports.
func TestBoundsAreSupports(t *testing.T) {
	good := 0
	laws(2000, func(m *oracle.Mixer, z api.Zono, _ []float64) {
		for i, s := range Bounds(z) {
			hi, above := Support(z, along(z.N, i, 1))
			lo, below := Support(z, along(z.N, i, -1))
			if s.Bad {
				if above && below {
					t.Errorf("%s has no bounds at %d, but supports", text(z), i)
				}
				continue
			}
			good++
			if !above || !below || hi != s.Hi || -lo != s.Lo {
				t.Errorf("%s has the bounds %v at %d, and the supports %v and %v", text(z), s, i, lo, hi)
			}
		}
	})
	if good < 2000 {
		t.Errorf("%d bounds were good only", good)
	}
}

// 10.10
func TestBoxHolds(t *testing.T) {
	both := 0
	laws(4000, func(m *oracle.Mixer, z api.Zono, d []float64) {
		far, ok := Support(z, d)
		farther, is := Support(Box(z), d)
		if ok && is {
			both++
		}
		if ok && is && farther < far {
			t.Errorf("the box of %s goes to %v at %v, not to %v", text(z), farther, d, far)
		}
	})
	if both < 1500 {
		t.Errorf("%d supports of both only", both)
	}
}

// 10.11: the sum of two points differs from the sum's own by at most R.
func TestPlusHolds(t *testing.T) {
	var m oracle.Mixer
	sums := 0
	for range 6000 {
		a, b := somePair(&m)
		z := Plus(a, b)
		if z.Bad {
			continue
		}
		sums++
		e := someValues(&m, a, b)
		x, y := pointOf(a, e, someBox(&m, a)), pointOf(b, e, someBox(&m, b))
		for i, v := range oracle.Spread(z, e) {
			if off := size(minus(plus(x[i], y[i]), v)); off.Cmp(exact(z.R[i])) > 0 {
				t.Fatalf("Plus of %s and %s is %s: at %v the coordinate %d is off by %v", text(a), text(b), text(z), e, i, off)
			}
		}
	}
	if sums < 2000 {
		t.Errorf("%d sums only", sums)
	}
}

// 10.11: whichever comes first.
func TestPlusHeedsNoOrder(t *testing.T) {
	var m oracle.Mixer
	for range 5000 {
		a, b := somePair(&m)
		expect(t, fmt.Sprintf("Plus of %s and %s", text(a), text(b)), Plus(a, b), Plus(b, a))
	}
}

// end is 1 or -1, by the sign of a real.
func end(v *big.Rat) *big.Rat { return big.NewRat(int64(v.Sign()|1), 1) }

// 10.12: no point that z holds goes farther than the support, and one goes just as far as the sum that is rounded.
func TestSupportIsReached(t *testing.T) {
	laws(3000, func(m *oracle.Mixer, z api.Zono, d []float64) {
		far, ok := Support(z, d)
		e, r := someValues(m, z), someBox(m, z)
		if v := sumAlong(d, pointOf(z, e, r)); ok && v.Cmp(exact(far)) > 0 {
			t.Errorf("%s goes to %v at %v, and has a point at %v", text(z), far, d, v)
		}
		for k, g := range z.G {
			e[z.Ids[k]] = end(products(d, g))
		}
		for i, a := range z.R {
			r[i] = times(end(exact(d[i])), exact(a))
		}
		last := oracle.Roundings(sumAlong(d, pointOf(z, e, r)))
		if ok != last.Is[api.Up] || !oracle.Same(far, last.Number[api.Up]) {
			t.Errorf("%s goes to %v at %v, and its farthest point to %v", text(z), far, d, last)
		}
	})
}

// formed tells whether an answer is a zonotope or a bad one, without a nought that has a sign.
func formed(z api.Zono) bool {
	minus := func(a float64) bool { return oracle.Same(a, oracle.MinusZero()) }
	return wantForm(z) >= 0 && !slices.ContainsFunc(append(slices.Clone(z.G), z.C, z.R), func(l []float64) bool { return slices.ContainsFunc(l, minus) })
}

// anyNumbers are up to three floats of any bits, and often numbers.
func anyNumbers(m *oracle.Mixer) []float64 {
	var l []float64
	for range m.Below(4) {
		a := samples.MixedNumber(m)
		if m.Below(8) == 0 {
			a = api.Float(m.Word())
		}
		l = append(l, a)
	}
	return l
}

// 10.13: whatever lists the calls are given, they end, and answer what may be answered, twice the same.
func TestAnything(t *testing.T) {
	var m oracle.Mixer
	for range 30000 {
		a, b := samples.AnyZono(&m), samples.AnyZono(&m)
		if m.Below(4) == 0 {
			a = api.Zono{N: samples.AnyWhole(&m), C: anyNumbers(&m), R: anyNumbers(&m), G: lists(anyNumbers(&m), anyNumbers(&m)), Ids: ids(samples.AnyWhole(&m), samples.AnyWhole(&m)), Bad: m.Below(4) == 0}
		}
		next := samples.AnyWhole(&m)
		lifted, behind := Lift(a, next)
		again, too := Lift(a, next)
		c, g := anyNumbers(&m), lists(anyNumbers(&m), anyNumbers(&m))
		all := []api.Zono{lifted, again, Box(a), Box(a), Plus(a, b), Plus(a, b), New(c, g), New(c, g), New(a.C, a.G), New(a.C, a.G)}
		for i, z := range all {
			if !formed(z) || !samples.SameZono(z, all[i&^1]) {
				t.Fatalf("%d: %s of %s and %s", i, text(z), text(a), text(b))
			}
		}
		if behind != too || behind < next || lifted.Bad && behind != next {
			t.Fatalf("Lift of %s from %d on tells %d and %d", text(a), next, behind, too)
		}
		far, ok := Support(a, c)
		if twice, is := Support(a, c); ok != is || !oracle.Same(far, twice) || !isNumber(far) || !ok && !oracle.Same(far, 0) || oracle.Same(far, oracle.MinusZero()) {
			t.Fatalf("Support of %s at %v: %v %v", text(a), c, far, ok)
		}
		if l := Bounds(a); len(l) > 0 && (wantForm(a) < 1 || len(l) != a.N) || !slices.Equal(l, Bounds(a)) {
			t.Fatalf("Bounds of %s: %v", text(a), l)
		}
		if Check(a) != Check(a) || !Same(a, a) || Same(a, b) != Same(b, a) {
			t.Fatalf("Same of %s and %s", text(a), text(b))
		}
	}
}

// 10.13, Numbers: the sign of a nought among the arguments turns nothing.
func TestSignsOfNoughts(t *testing.T) {
	var m oracle.Mixer
	for range 3000 {
		a, b := somePair(&m)
		p, q := flipped(a), flipped(b)
		d := samples.MixedNumbers(&m, wantWidth(a))
		far, ok := Support(a, d)
		expectSupport(t, p, flip(d), far, ok)
		lifted, behind := Lift(a, 4)
		expectLift(t, p, 4, lifted, behind)
		expectSpans(t, "Bounds", Bounds(p), Bounds(a))
		expect(t, "Box", Box(p), Box(a))
		expect(t, "Plus", Plus(p, q), Plus(a, b))
		expect(t, "New", New(p.C, p.G), New(a.C, a.G))
		expectSame(t, p, a, true)
	}
}

// flip is a list in which each nought has the other sign.
func flip(l []float64) []float64 {
	all := slices.Clone(l)
	for i, a := range all {
		if a == 0 {
			all[i] = -a
		}
	}
	return all
}

func flipped(z api.Zono) api.Zono {
	z.C, z.R, z.G = flip(z.C), flip(z.R), slices.Clone(z.G)
	for k, g := range z.G {
		z.G[k] = flip(g)
	}
	return z
}

// makers are the calls that tell a zonotope, of two that are handed in.
func makers() map[string]func(a, b api.Zono) api.Zono {
	return map[string]func(a, b api.Zono) api.Zono{
		"New":  func(a, b api.Zono) api.Zono { return New(a.C, a.G) },
		"Box":  func(a, b api.Zono) api.Zono { return Box(a) },
		"Plus": Plus,
		"Lift": func(a, b api.Zono) api.Zono {
			z, _ := Lift(a, 100)
			return z
		},
		"Lift of no box": func(a, b api.Zono) api.Zono {
			a.R = samples.Roomy(make([]float64, a.N), 5)
			z, _ := Lift(a, 100)
			return z
		},
		"Plus of a point": func(a, b api.Zono) api.Zono { return Plus(a, point(1, 2, 3)) },
	}
}

// DOC.md, rule 3: what is handed in stays, with the room behind it, and whoever writes into an answer changes nothing of it.
func TestArgumentsStay(t *testing.T) {
	for name, call := range makers() {
		a, b := samples.RoomyZono(), samples.RoomyZono()
		for k := range b.Ids {
			b.Ids[k]++
		}
		before, other := samples.WholeZono(a), samples.WholeZono(b)
		got := call(a, b)
		want := samples.WholeZono(got)
		samples.ScribbleZono(got)
		if !samples.SameZono(samples.WholeZono(a), before) || !samples.SameZono(samples.WholeZono(b), other) {
			t.Errorf("%s changes what it was given, or tells a part of it", name)
		}
		again := call(a, b)
		samples.ScribbleZono(a)
		samples.ScribbleZono(b)
		if !samples.SameZono(samples.WholeZono(again), want) {
			t.Errorf("%s keeps what it was given", name)
		}
	}
	z, d := samples.RoomyZono(), samples.Roomy(numbers(1, -2, oracle.MinusZero()), 4)
	before, direction := samples.WholeZono(z), slices.Clone(samples.Whole(d))
	Check(z)
	Same(z, z)
	Bounds(z)
	Support(z, d)
	if !samples.SameZono(samples.WholeZono(z), before) || !samples.SameNumbers(samples.Whole(d), direction) {
		t.Error("what is asked about was changed")
	}
}

// DOC.md, rule 3: no two lists of one answer share any memory, even if those that were handed in do.
func TestListsShareNothing(t *testing.T) {
	l := numbers(1, 2, 3)
	shared := of(l, ids(0, 1, 2), lists(l, l, l), l)
	for name, call := range makers() {
		z := call(shared, shared)
		if z.Bad {
			t.Errorf("%s is bad", name)
		}
		all := append(slices.Clone(samples.Whole(z.G)), z.C, z.R)
		for i, a := range all {
			samples.Scribble(a, float64(i))
		}
		for i, a := range all {
			if slices.ContainsFunc(samples.Whole(a), func(x float64) bool { return x != float64(i) }) {
				t.Errorf("%s: the list %d shares memory", name, i)
			}
		}
	}
	if !samples.SameNumbers(l, numbers(1, 2, 3)) {
		t.Errorf("what was handed in is now %v", l)
	}
}

// DOC.md, rule 3: of spans too.
func TestBoundsAreNew(t *testing.T) {
	z := samples.WideZono(3, 2)
	l := Bounds(z)
	want := slices.Clone(l)
	samples.Scribble(l, api.Span{Bad: true})
	expectSpans(t, "Bounds", Bounds(z), want)
}

// 10.13: lists with room behind them tell the same as such without.
func TestRoomTurnsNothing(t *testing.T) {
	a, b := samples.RoomyZono(), samples.WideZono(3, 4)
	for name, call := range makers() {
		expect(t, name, call(a, a), call(b, b))
	}
	far, ok := Support(b, numbers(1, math.Pi, -1))
	expectSupport(t, a, samples.Roomy(numbers(1, math.Pi, -1), math.NaN()), far, ok)
	expectSpans(t, "Bounds", Bounds(a), Bounds(b))
}
