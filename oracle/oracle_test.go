package oracle

import (
	"math/big"
	"testing"

	"ambit/api"
)

// sum is the sum of numbers.
func sum(l ...float64) *big.Rat {
	v := new(big.Rat)
	for _, a := range l {
		v.Add(v, Exact(a))
	}
	return v
}

// Known roundings: what DOC.md says of numbers, ties and the ends of the row.
func TestRoundings(t *testing.T) {
	all := [3]bool{true, true, true}
	onlyDown, onlyUp := [3]bool{api.Down: true}, [3]bool{api.Up: true}
	for i, c := range []struct {
		v    *big.Rat
		want Rounded
	}{
		{sum(), Rounded{Is: all}},
		{sum(1.5), Rounded{[3]float64{1.5, 1.5, 1.5}, all}},
		{sum(1, 0x1p-53), Rounded{[3]float64{1, 1 + 0x1p-52, 1}, all}},
		{sum(1, 0x1p-52, 0x1p-53), Rounded{[3]float64{1 + 0x1p-51, 1 + 0x1p-51, 1 + 0x1p-52}, all}},
		{sum(-1, -0x1p-53, -Least), Rounded{[3]float64{-1 - 0x1p-52, -1, -1 - 0x1p-52}, all}},
		{Power(-1075), Rounded{[3]float64{0, Least, 0}, all}},
		{new(big.Rat).Neg(Power(-1075)), Rounded{[3]float64{0, 0, -Least}, all}},
		{sum(Max, 0x1p969), Rounded{[3]float64{Max, 0, Max}, [3]bool{api.Near: true, api.Down: true}}},
		{sum(Max, 0x1p970), Rounded{[3]float64{0, 0, Max}, onlyDown}},
		{sum(-Max, -Max), Rounded{[3]float64{0, -Max, 0}, onlyUp}},
		{big.NewRat(1, 3), Rounded{[3]float64{0x1.5555555555555p-2, 0x1.5555555555556p-2, 0x1.5555555555555p-2}, all}},
	} {
		got := Roundings(c.v)
		for _, d := range Directions() {
			if got.Is[d] != c.want.Is[d] || !Same(got.Number[d], c.want.Number[d]) {
				t.Errorf("%d by %d: %x %v, not %x %v", i, d, got.Number[d], got.Is[d], c.want.Number[d], c.want.Is[d])
			}
		}
	}
}

func TestMixerIsTheSame(t *testing.T) {
	var m, n Mixer
	for range 1000 {
		if m.Word() != n.Word() || m.Below(7) != n.Below(7) || m.Number(1020) != n.Number(1020) {
			t.Fatal("two runs differ")
		}
	}
}

// Known layers: one of each kind of the table, reckoned by hand.
func TestTells(t *testing.T) {
	line := func(n int) api.Shape { return api.Shape{C: 1, H: 1, W: n} }
	for i, c := range []struct {
		l       api.Layer
		in, out api.Shape
		v, want []int64
	}{
		{api.Layer{Kind: api.KDense, Out: 2, W: []float64{1, 2, 3, 4}, B: []float64{5, 6}}, line(2), api.Shape{C: 2, H: 1, W: 1}, []int64{7, 8}, []int64{28, 59}},
		{api.Layer{Kind: api.KConv, Out: 1, KH: 2, KW: 2, SH: 1, SW: 1, PH: 1, PW: 1, W: []float64{1, 2, 3, 4}, B: []float64{9}},
			api.Shape{C: 1, H: 1, W: 2}, api.Shape{C: 1, H: 2, W: 3}, []int64{5, 7}, []int64{29, 52, 30, 19, 28, 16}},
		{api.Layer{Kind: api.KScale, W: []float64{2, 3}, B: []float64{0, 1}}, api.Shape{C: 2, H: 1, W: 2}, api.Shape{C: 2, H: 1, W: 2}, []int64{1, 2, 3, 4}, []int64{2, 4, 10, 13}},
		{api.Layer{Kind: api.KMean, KH: 2, KW: 1, SH: 2, SW: 1, PH: 1, A: 3}, api.Shape{C: 1, H: 3, W: 1}, api.Shape{C: 1, H: 2, W: 1}, []int64{1, 2, 4}, []int64{3, 18}},
		{api.Layer{Kind: api.KTurn, Out: 1, Z: []complex128{1 + 2i}, ZB: []complex128{3 + 4i}}, line(2), api.Shape{C: 2, H: 1, W: 1}, []int64{5, 6}, []int64{-4, 20}},
	} {
		var v []*big.Rat
		for _, n := range c.v {
			v = append(v, big.NewRat(n, 1))
		}
		got := Tells(c.l, c.in, c.out, v)
		if len(got) != len(c.want) {
			t.Fatalf("%d: %v, not %v", i, got, c.want)
		}
		for k, n := range c.want {
			if got[k].Cmp(big.NewRat(n, 1)) != 0 {
				t.Errorf("%d: %v, not %v", i, got, c.want)
			}
		}
	}
}
