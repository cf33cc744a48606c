package point

import (
	"math"
	"testing"

	"ambit/api"
	"ambit/model"
	"ambit/oracle"
	"ambit/samples"
)

// must is what a call tells that may not refuse.
func must(t *testing.T) func(x api.Dyad, e api.Errno) api.Dyad {
	return func(x api.Dyad, e api.Errno) api.Dyad {
		t.Helper()
		if e != api.OK {
			t.Fatalf("refused: %v", e)
		}
		return x
	}
}

// someTriple are three exact numbers that often have something to do with one another.
func someTriple(m *oracle.Mixer) (x, y, z api.Dyad) {
	x, y, z = someDyad(m), someDyad(m), someDyad(m)
	switch m.Below(6) {
	case 0:
		y = turned(x)
	case 1:
		z = x
	case 2:
		// Far from the others, but so that sums and products of all are still short enough.
		if len(z.M) > 0 {
			z.E = []int{30000, -30000}[m.Below(2)]
		}
	}
	return x, y, z
}

// 14.8: two roads to one value tell one form: any order and grouping, and Mul over Add.
func TestTwoRoadsTellOneForm(t *testing.T) {
	var m oracle.Mixer
	tell := must(t)
	for range 3000 {
		x, y, z := someTriple(&m)
		minus := func(x api.Dyad) api.Dyad { return tell(Sub(api.Dyad{}, x)) }
		for i, pair := range [][2]api.Dyad{
			{tell(Add(x, y)), tell(Add(y, x))},
			{tell(Mul(x, y)), tell(Mul(y, x))},
			{tell(Add(tell(Add(x, y)), z)), tell(Add(x, tell(Add(y, z))))},
			{tell(Mul(tell(Mul(x, y)), z)), tell(Mul(x, tell(Mul(y, z))))},
			{tell(Mul(x, tell(Add(y, z)))), tell(Add(tell(Mul(x, y)), tell(Mul(x, z))))},
			{tell(Mul(tell(Sub(y, z)), x)), tell(Sub(tell(Mul(x, y)), tell(Mul(x, z))))},
			{tell(Sub(x, y)), tell(Add(x, minus(y)))},
			{tell(Sub(x, y)), minus(tell(Sub(y, x)))},
			{tell(Add(tell(Sub(x, y)), y)), x},
			{minus(minus(x)), x},
			{tell(Add(x, x)), tell(Shift(x, 1))},
			{tell(Mul(x, dyad(1, -40))), tell(Shift(x, -40))},
			{tell(Shift(tell(Shift(x, 77)), -77)), x},
			{tell(Add(x, api.Dyad{})), x},
			{tell(Mul(x, dyad(1, 0))), x},
			{tell(Mul(x, api.Dyad{})), api.Dyad{}},
			{tell(Make(x.Neg, x.M, x.E)), x},
			{tell(Make(x.Neg, append([]byte{0, 0}, append(x.M[:len(x.M):len(x.M)], 0)...), x.E-8)), x},
		} {
			if !same(pair[0], pair[1]) || Check(pair[0]) != api.OK {
				t.Fatalf("the road %d of %s, %s, %s: %s and %s", i, text(x), text(y), text(z), text(pair[0]), text(pair[1]))
			}
			expectCmp(t, pair[0], pair[1], 0, true)
		}
	}
}

// 14.8: what is not the same form is not the same value: Cmp is 0 just of the same.
func TestOneFormOneValue(t *testing.T) {
	var m oracle.Mixer
	for range 4000 {
		x, y := dyad(2*m.Below(6)-5, m.Below(5)-2), dyad(2*m.Below(6)-5, m.Below(5)-2)
		c, ok := Cmp(x, y)
		if d, _ := Cmp(y, x); !ok || d != -c || (c == 0) != same(x, y) {
			t.Fatalf("Cmp(%s, %s): %d %v, and turned %d", text(x), text(y), c, ok, d)
		}
		difference, _ := Sub(x, y)
		expectCmp(t, difference, api.Dyad{}, c, true)
	}
}

// 14.8: Round by Near of Of(a) is a's value, and so by every direction.
func TestRoundOfOf(t *testing.T) {
	var m oracle.Mixer
	all := oracle.Edges()
	for range 20000 {
		all = append(all, samples.MixedNumber(&m), api.Float(m.Word()>>12), -api.Float(m.Word()>>12))
		if a := api.Float(m.Word()); a-a == 0 {
			all = append(all, a)
		}
	}
	for _, a := range all {
		x, ok := Of(a)
		if !ok {
			t.Fatalf("Of(%x)", a)
		}
		for _, d := range oracle.Directions() {
			expectRound(t, d, x, a+0, true)
		}
	}
}

// 14.9: Eval of a network is Eval of its last layer alone over what Eval of the others tells.
func TestEvalGoesLayerByLayer(t *testing.T) {
	t.Parallel()
	var m oracle.Mixer
	seen := oracle.Tally{}
	for range 1500 {
		n := samples.NetOfKinds(&m, []int{api.KDense, api.KConv, api.KScale, api.KMean, api.KTurn, api.KRelu, api.KLeaky, api.KSquare, api.KMax}, 1)
		x := farDyads(&m, width(n))
		shapes, _, _ := model.Shapes(n)
		last := len(n.Layers) - 1
		y, e, at := Eval(netOf(n.In, n.Layers[:last]...), x)
		if e != api.OK {
			expectNoEval(t, n, x, e, at)
			seen.Note("too long ahead", true)
			continue
		}
		z, e, at := Eval(netOf(shapes[last], n.Layers[last]), y)
		if e != api.OK {
			expectNoEval(t, n, x, e, last+at)
			seen.Note("too long at the last", true)
			continue
		}
		expectEval(t, n, x, z)
		seen.Note("told", last > 0)
	}
	seen.Expect(t, 20, "too long ahead", "too long at the last", "told")
}

// middles are the middles of two lists, number by number.
func middles(t *testing.T, x, y []api.Dyad) []api.Dyad {
	t.Helper()
	tell := must(t)
	var all []api.Dyad
	for i := range x {
		all = append(all, tell(Shift(tell(Add(x[i], y[i])), -1)))
	}
	return all
}

// 14.9: of the middle of two points a network of linear layers tells the middle of what it tells of both.
func TestEvalIsLinear(t *testing.T) {
	t.Parallel()
	var m oracle.Mixer
	seen := map[int]int{}
	for range 800 {
		n := samples.NetOfKinds(&m, samples.LinearKinds(), 1)
		x, y := someDyads(&m, width(n)), someDyads(&m, width(n))
		a, e, _ := Eval(n, x)
		b, f, _ := Eval(n, y)
		if e != api.OK || f != api.OK {
			t.Fatalf("%v %v", e, f)
		}
		expectEval(t, n, middles(t, x, y), middles(t, a, b))
		for _, l := range n.Layers {
			seen[l.Kind]++
		}
	}
	for _, k := range samples.LinearKinds() {
		if seen[k] < 100 {
			t.Errorf("the kind %d came up %d times only", k, seen[k])
		}
	}
}

// 14.9: a bent network is not linear: so the law above can fail.
func TestBentIsNotLinear(t *testing.T) {
	for _, k := range []int{api.KRelu, api.KSquare} {
		n := netOf(samples.Line(1), kind(k))
		a, _, _ := Eval(n, wholes(-2))
		b, _, _ := Eval(n, wholes(4))
		if c, _, _ := Eval(n, wholes(1)); sameAll(c, middles(t, a, b)) {
			t.Errorf("the kind %d", k)
		}
	}
}

// anyDyads are some, now and then with one that is none.
func anyDyads(m *oracle.Mixer, n int) []api.Dyad {
	all := someDyads(m, n)
	if n > 0 && m.Below(4) == 0 {
		all[m.Below(n)] = anyDyad(m)
	}
	return all
}

// expectTold holds an answer to what every answer is: an exact number in its one form, or 0 beside an error.
func expectTold(t *testing.T, y []api.Dyad, e api.Errno) {
	t.Helper()
	for _, x := range y {
		if Check(x) != api.OK || e != api.OK && !same(x, api.Dyad{}) {
			t.Fatalf("%s beside %v", text(x), e)
		}
	}
}

// 14.10: whatever is handed in, a call ends, and answers what may be answered, twice the same.
func TestAnythingEnds(t *testing.T) {
	var m oracle.Mixer
	for range 4000 {
		x, y, n := anyDyad(&m), anyDyad(&m), int(m.Word())
		for _, call := range []func() (api.Dyad, api.Errno){
			func() (api.Dyad, api.Errno) { return Add(x, y) },
			func() (api.Dyad, api.Errno) { return Sub(x, y) },
			func() (api.Dyad, api.Errno) { return Mul(x, y) },
			func() (api.Dyad, api.Errno) { return Shift(x, n) },
			func() (api.Dyad, api.Errno) { return Shift(x, n>>48) },
			func() (api.Dyad, api.Errno) { return Make(y.Neg, x.M, y.E) },
			func() (api.Dyad, api.Errno) { return Make(y.Neg, x.M, n) },
		} {
			a, e := call()
			b, f := call()
			if !same(a, b) || e != f || e != api.OK && e != api.ErrArg && e != api.ErrBits {
				t.Fatalf("of %s, %s and %d: %s %v and %s %v", text(x), text(y), n, text(a), e, text(b), f)
			}
			expectTold(t, []api.Dyad{a}, e)
		}
		c, ok := Cmp(x, y)
		if both := Check(x) == api.OK && Check(y) == api.OK; ok != both || !ok && c != 0 {
			t.Fatalf("Cmp(%s, %s): %d %v", text(x), text(y), c, ok)
		}
		a, ok := Round(api.Dir(m.Below(5)-1), x)
		if !oracle.Same(a, a+0) || a-a != 0 || !ok && a != 0 {
			t.Fatalf("Round of %s: %v %v", text(x), a, ok)
		}
		of, ok := Of(api.Float(m.Word()))
		expectTold(t, []api.Dyad{of}, map[bool]api.Errno{false: api.ErrArg}[ok])
	}
}

// 14.10: likewise of questions, networks and claims.
func TestAnyNetworkEnds(t *testing.T) {
	t.Parallel()
	var m oracle.Mixer
	seen := oracle.Tally{}
	for range 4000 {
		p, e := samples.AnyProp(&m), []int(nil)
		for range len(p.G) + m.Below(9)/8 {
			e = append(e, samples.AnyWhole(&m)-1)
		}
		x, f := Input(p, e, samples.AnyWhole(&m))
		expectTold(t, x, f)
		seen.Note("a point", f == api.OK)
		seen.Note("no point", f != api.OK)
		n := samples.AnyNet(&m)
		size, _ := model.Size(n.In)
		y, f, at := Eval(n, anyDyads(&m, size))
		if f == api.OK && at != 0 || f != api.OK && len(y) > 0 || at < 0 || at > len(n.Layers) {
			t.Fatalf("Eval(%s): %s %v at %d", text(n), text(y), f, at)
		}
		expectTold(t, y, f)
		seen.Note("outputs", f == api.OK)
		seen.Note("no outputs", f != api.OK)
		a := append(samples.MixedNumbers(&m, len(y)), []float64{1, math.NaN()}[m.Below(2)])
		s, f := Claim(a[m.Below(5)/4:], anyDyads(&m, len(y)))
		expectTold(t, []api.Dyad{s}, f)
		seen.Note("a sum", f == api.OK)
		seen.Note("no sum", f != api.OK)
	}
	seen.Expect(t, 300, "a point", "no point", "outputs", "no outputs", "a sum", "no sum")
}

// Numbers: the sign of a nought turns nothing.
func TestSignsOfNoughtsTurnNothing(t *testing.T) {
	zero, minus := 0.0, oracle.MinusZero()
	for _, a := range []float64{zero, minus} {
		expectClaim(t, numbers(a, 1, a), wholes(3, 0), api.Dyad{}, api.OK)
		expectInput(t, asked(numbers(a), numbers(a)), []int{-1}, 0, wholes(0), api.OK)
		expectEval(t, netOf(samples.Line(1), dense(a, a)), wholes(-3), wholes(0))
		expectEval(t, netOf(samples.Line(1), api.Layer{Kind: api.KMean, KH: 1, KW: 1, SH: 1, SW: 1, A: a}), wholes(-3), wholes(0))
		expectEval(t, netOf(samples.Line(2), api.Layer{Kind: api.KTurn, Out: 1, Z: []complex128{complex(a, a)}, ZB: []complex128{complex(a, a)}}), wholes(-3, 3), wholes(0, 0))
	}
}
