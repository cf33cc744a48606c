package oracle

import (
	"fmt"
	"math/big"
	"testing"

	"ambit/api"
)

// sum is the sum of numbers.
func sum(l ...float64) *big.Rat {
	v := new(big.Rat)
	for _, a := range l {
		v.Add(v, Exact(a))
	}
	return v
}

// Known roundings: what DOC.md says of numbers, ties and the ends of the row.
func TestRoundings(t *testing.T) {
	all := [3]bool{true, true, true}
	onlyDown, onlyUp := [3]bool{api.Down: true}, [3]bool{api.Up: true}
	for i, c := range []struct {
		v    *big.Rat
		want Rounded
	}{
		{sum(), Rounded{Is: all}},
		{sum(1.5), Rounded{[3]float64{1.5, 1.5, 1.5}, all}},
		{sum(1, 0x1p-53), Rounded{[3]float64{1, 1 + 0x1p-52, 1}, all}},
		{sum(1, 0x1p-52, 0x1p-53), Rounded{[3]float64{1 + 0x1p-51, 1 + 0x1p-51, 1 + 0x1p-52}, all}},
		{sum(-1, -0x1p-53, -Least), Rounded{[3]float64{-1 - 0x1p-52, -1, -1 - 0x1p-52}, all}},
		{Power(-1075), Rounded{[3]float64{0, Least, 0}, all}},
		{new(big.Rat).Neg(Power(-1075)), Rounded{[3]float64{0, 0, -Least}, all}},
		{sum(Max, 0x1p969), Rounded{[3]float64{Max, 0, Max}, [3]bool{api.Near: true, api.Down: true}}},
		{sum(Max, 0x1p970), Rounded{[3]float64{0, 0, Max}, onlyDown}},
		{sum(-Max, -Max), Rounded{[3]float64{0, -Max, 0}, onlyUp}},
		{big.NewRat(1, 3), Rounded{[3]float64{0x1.5555555555555p-2, 0x1.5555555555556p-2, 0x1.5555555555555p-2}, all}},
	} {
		got := Roundings(c.v)
		for _, d := range Directions() {
			if got.Is[d] != c.want.Is[d] || !Same(got.Number[d], c.want.Number[d]) {
				t.Errorf("%d by %d: %x %v, not %x %v", i, d, got.Number[d], got.Is[d], c.want.Number[d], c.want.Is[d])
			}
		}
	}
}

func TestMixerIsTheSame(t *testing.T) {
	var m, n Mixer
	for range 1000 {
		if m.Word() != n.Word() || m.Below(7) != n.Below(7) || m.Number(1020) != n.Number(1020) {
			t.Fatal("two runs differ")
		}
	}
}

// Known layers: one of each kind of the table, reckoned by hand.
func TestTells(t *testing.T) {
	line := func(n int) api.Shape { return api.Shape{C: 1, H: 1, W: n} }
	for i, c := range []struct {
		l       api.Layer
		in, out api.Shape
		v, want []int64
	}{
		{api.Layer{Kind: api.KDense, Out: 2, W: []float64{1, 2, 3, 4}, B: []float64{5, 6}}, line(2), api.Shape{C: 2, H: 1, W: 1}, []int64{7, 8}, []int64{28, 59}},
		{api.Layer{Kind: api.KConv, Out: 1, KH: 2, KW: 2, SH: 1, SW: 1, PH: 1, PW: 1, W: []float64{1, 2, 3, 4}, B: []float64{9}},
			api.Shape{C: 1, H: 1, W: 2}, api.Shape{C: 1, H: 2, W: 3}, []int64{5, 7}, []int64{29, 52, 30, 19, 28, 16}},
		{api.Layer{Kind: api.KScale, W: []float64{2, 3}, B: []float64{0, 1}}, api.Shape{C: 2, H: 1, W: 2}, api.Shape{C: 2, H: 1, W: 2}, []int64{1, 2, 3, 4}, []int64{2, 4, 10, 13}},
		{api.Layer{Kind: api.KMean, KH: 2, KW: 1, SH: 2, SW: 1, PH: 1, A: 3}, api.Shape{C: 1, H: 3, W: 1}, api.Shape{C: 1, H: 2, W: 1}, []int64{1, 2, 4}, []int64{3, 18}},
		{api.Layer{Kind: api.KTurn, Out: 1, Z: []complex128{1 + 2i}, ZB: []complex128{3 + 4i}}, line(2), api.Shape{C: 2, H: 1, W: 1}, []int64{5, 6}, []int64{-4, 20}},
	} {
		var v []*big.Rat
		for _, n := range c.v {
			v = append(v, big.NewRat(n, 1))
		}
		got := Tells(c.l, c.in, c.out, v)
		if len(got) != len(c.want) {
			t.Fatalf("%d: %v, not %v", i, got, c.want)
		}
		for k, n := range c.want {
			if got[k].Cmp(big.NewRat(n, 1)) != 0 {
				t.Errorf("%d: %v, not %v", i, got, c.want)
			}
		}
	}
}

// Known bent layers, reckoned by hand.
func TestBends(t *testing.T) {
	window := api.Layer{Kind: api.KMax, KH: 1, KW: 2, SH: 1, SW: 1, PW: 1}
	for i, c := range []struct {
		l       api.Layer
		in, out api.Shape
		v, want []*big.Rat
	}{
		{api.Layer{Kind: api.KRelu}, api.Shape{C: 1, H: 1, W: 3}, api.Shape{C: 1, H: 1, W: 3}, []*big.Rat{sum(-2), sum(), sum(0.5)}, []*big.Rat{sum(), sum(), sum(0.5)}},
		{api.Layer{Kind: api.KLeaky, A: 0.25}, api.Shape{C: 3, H: 1, W: 1}, api.Shape{C: 3, H: 1, W: 1}, []*big.Rat{sum(-2), sum(), sum(3)}, []*big.Rat{sum(-0.5), sum(), sum(3)}},
		{api.Layer{Kind: api.KSquare}, api.Shape{C: 1, H: 2, W: 1}, api.Shape{C: 1, H: 2, W: 1}, []*big.Rat{sum(-1.5), sum(2)}, []*big.Rat{sum(2.25), sum(4)}},
		{window, api.Shape{C: 2, H: 1, W: 2}, api.Shape{C: 2, H: 1, W: 3}, []*big.Rat{sum(-5), sum(-7), sum(1), sum(2)}, []*big.Rat{sum(-5), sum(-5), sum(-7), sum(1), sum(2), sum(2)}},
	} {
		low, high := Bends(c.l, c.in, c.out, c.v)
		if len(low) != len(c.want) || len(high) != len(c.want) {
			t.Fatalf("%d: %v %v, not %v", i, low, high, c.want)
		}
		for k, v := range c.want {
			if low[k].Cmp(v) != 0 || high[k].Cmp(v) != 0 {
				t.Errorf("%d: %v %v, not %v", i, low, high, c.want)
			}
		}
	}
	for _, kind := range []int{api.KSigmoid, api.KTanh} {
		of := map[int]func(v *big.Rat) (*big.Rat, *big.Rat){api.KSigmoid: Sigmoid, api.KTanh: Tanh}[kind]
		low, high := Bends(api.Layer{Kind: kind}, api.Shape{C: 1, H: 1, W: 1}, api.Shape{C: 1, H: 1, W: 1}, []*big.Rat{sum(0.75)})
		if a, b := of(sum(0.75)); low[0].Cmp(a) != 0 || high[0].Cmp(b) != 0 {
			t.Errorf("the kind %d tells something else", kind)
		}
	}
}

// A layer of either sort, and a sum with an earlier output.
func TestTold(t *testing.T) {
	two := api.Shape{C: 1, H: 1, W: 2}
	v, earlier := []*big.Rat{sum(-1.5), sum(2)}, []*big.Rat{sum(4), sum(-8)}
	for i, c := range []struct {
		l    api.Layer
		want []*big.Rat
	}{
		{api.Layer{Kind: api.KAdd, From: 3}, []*big.Rat{sum(2.5), sum(-6)}},
		{api.Layer{Kind: api.KScale, W: []float64{2}, B: []float64{1}}, []*big.Rat{sum(-2), sum(5)}},
		{api.Layer{Kind: api.KSquare}, []*big.Rat{sum(2.25), sum(4)}},
	} {
		low, high := Told(c.l, two, two, v, earlier)
		for k, w := range c.want {
			if low[k].Cmp(w) != 0 || high[k].Cmp(w) != 0 {
				t.Errorf("%d: %v %v, not %v", i, low, high, c.want)
			}
		}
	}
	if low, high := Told(api.Layer{Kind: api.KTanh}, two, two, v, nil); low[0].Cmp(high[0]) >= 0 || low[1].Cmp(high[1]) >= 0 {
		t.Error("no bounds of tanh")
	}
}

func TestSpread(t *testing.T) {
	z := api.Zono{N: 2, C: []float64{1, 2}, Ids: []int{3, 5}, G: [][]float64{{4, 0}, {-1, 8}}, R: []float64{9, 9}}
	got := Spread(z, map[int]*big.Rat{3: sum(0.5), 5: sum(-1), 7: sum(1)})
	if len(got) != 2 || got[0].Cmp(sum(4)) != 0 || got[1].Cmp(sum(-6)) != 0 {
		t.Errorf("%v", got)
	}
}

func TestShares(t *testing.T) {
	var m Mixer
	seen := Tally{}
	for range 200 {
		v := m.Share()
		seen.Note("an end", v.IsInt() && v.Sign() != 0)
		seen.Note("between", new(big.Rat).Abs(v).Cmp(sum(1)) < 0)
		seen.Note("outside", new(big.Rat).Abs(v).Cmp(sum(1)) > 0)
	}
	seen.Expect(t, 50, "an end", "between")
	if seen["outside"] > 0 {
		t.Error("some lie outside")
	}
}

// Known bounds: at 0 they are the value itself, elsewhere they agree to many more places than are written here, and far off they are still some.
func TestRealFunctions(t *testing.T) {
	for i, c := range []struct {
		of    func(v *big.Rat) (low, high *big.Rat)
		v     *big.Rat
		digit string
	}{
		{Falling, sum(1), "0.3678794411714423215955237701614608674458"},
		{Falling, sum(0.5), "0.6065306597126334236037995349911804534419"},
		{Sigmoid, sum(1), "0.7310585786300048792511592418218362743651"},
		{Sigmoid, sum(-1), "0.2689414213699951207488407581781637256348"},
		{Tanh, sum(0.5), "0.4621171572600097585023184836436725487302"},
		{Tanh, sum(-0.5), "-0.4621171572600097585023184836436725487302"},
	} {
		low, high := c.of(c.v)
		if low.Cmp(high) > 0 || new(big.Rat).Sub(high, low).Cmp(Power(-4000)) > 0 || low.FloatString(60)[:len(c.digit)] != c.digit {
			t.Errorf("%d: from %s to %s", i, low.FloatString(50), high.FloatString(50))
		}
	}
	for i, of := range []func(v *big.Rat) (low, high *big.Rat){Falling, Sigmoid, Tanh} {
		low, high := of(sum())
		if want := []*big.Rat{sum(1), sum(0.5), sum()}[i]; low.Cmp(want) != 0 || high.Cmp(want) != 0 {
			t.Errorf("%d at 0: from %v to %v", i, low, high)
		}
	}
	low, high := Tanh(sum(-Max))
	if low.Cmp(sum(-1)) != 0 || high.Cmp(sum(-1)) <= 0 || high.Cmp(sum(-1, 0x1p-1000)) > 0 {
		t.Errorf("tanh of -Max: from %v to %v", low, high)
	}
	low, high = Sigmoid(sum(5000))
	if high.Cmp(sum(1)) != 0 || low.Cmp(sum(1)) >= 0 || low.Cmp(sum(1, -0x1p-1000)) < 0 {
		t.Errorf("sigmoid of 5000: from %v to %v", low, high)
	}
}

// complaints keeps what it is told.
type complaints []string

func (c *complaints) Helper() {}

func (c *complaints) Errorf(format string, args ...any) {
	*c = append(*c, fmt.Sprintf(format, args...))
}

func TestTallyComplains(t *testing.T) {
	seen := Tally{}
	for i := range 5 {
		seen.Note("all", true)
		seen.Note("some", i > 2)
		seen.Note("none", false)
	}
	var told complaints
	seen.Expect(&told, 2, "all", "some")
	if len(told) != 0 {
		t.Errorf("%q", told)
	}
	seen.Expect(&told, 3, "all", "some", "none")
	if len(told) != 2 || told[0] != "some came up 2 times only" || told[1] != "none came up 0 times only" {
		t.Errorf("%q", told)
	}
}

// Known exact numbers, both ways, and the ends of those that are small enough.
func TestForms(t *testing.T) {
	for i, c := range []struct {
		v    *big.Rat
		want api.Dyad
	}{
		{sum(), api.Dyad{}},
		{sum(1), api.Dyad{M: []byte{1}}},
		{sum(-6), api.Dyad{Neg: true, M: []byte{3}, E: 1}},
		{sum(0.375), api.Dyad{M: []byte{3}, E: -3}},
		{sum(257, 0x1p-4), api.Dyad{M: []byte{0x10, 0x11}, E: -4}},
		{Power(-2000), api.Dyad{M: []byte{1}, E: -2000}},
		{plus(Power(64), whole(-7)), api.Dyad{M: []byte{0xff, 0xff, 0xff, 0xff, 0xff, 0xff, 0xff, 0xf9}}},
		{plus(Power(64), whole(3)), api.Dyad{M: []byte{1, 0, 0, 0, 0, 0, 0, 0, 3}}},
	} {
		got, ok := Form(c.v)
		if !ok || !SameDyad(got, c.want) || Value(c.want).Cmp(c.v) != 0 {
			t.Errorf("%d: %v %v and %v, not %v and %v", i, got, ok, Value(c.want), c.want, c.v)
		}
	}
	for n, is := range map[int]bool{65536: true, 65537: false, -65536: true, -65537: false} {
		if _, ok := Form(Power(n)); ok != is {
			t.Errorf("2^%d: %v", n, ok)
		}
	}
	for n, is := range map[int]bool{65536: true, 65537: false} {
		if _, ok := Form(minus(Power(n), whole(1))); ok != is {
			t.Errorf("%d bits: %v", n, ok)
		}
	}
	one := api.Dyad{M: []byte{1}}
	for _, x := range []api.Dyad{{}, {M: []byte{3}}, {Neg: true, M: []byte{1}}, {M: []byte{1}, E: 1}} {
		if SameDyad(x, one) {
			t.Errorf("%v is taken for 1", x)
		}
	}
}
