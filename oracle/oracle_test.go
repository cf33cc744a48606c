package oracle

import (
	"math/big"
	"testing"

	"ambit/api"
)

// real is the sum of numbers.
func real(l ...float64) *big.Rat {
	v := new(big.Rat)
	for _, a := range l {
		v.Add(v, Exact(a))
	}
	return v
}

// Known roundings: what DOC.md says of numbers, ties and the ends of the row.
func TestRoundings(t *testing.T) {
	all := [3]bool{true, true, true}
	onlyDown, onlyUp := [3]bool{api.Down: true}, [3]bool{api.Up: true}
	for i, c := range []struct {
		v    *big.Rat
		want Rounded
	}{
		{real(), Rounded{Is: all}},
		{real(1.5), Rounded{[3]float64{1.5, 1.5, 1.5}, all}},
		{real(1, 0x1p-53), Rounded{[3]float64{1, 1 + 0x1p-52, 1}, all}},
		{real(1, 0x1p-52, 0x1p-53), Rounded{[3]float64{1 + 0x1p-51, 1 + 0x1p-51, 1 + 0x1p-52}, all}},
		{real(-1, -0x1p-53, -Least), Rounded{[3]float64{-1 - 0x1p-52, -1, -1 - 0x1p-52}, all}},
		{Power(-1075), Rounded{[3]float64{0, Least, 0}, all}},
		{new(big.Rat).Neg(Power(-1075)), Rounded{[3]float64{0, 0, -Least}, all}},
		{real(Max, 0x1p969), Rounded{[3]float64{Max, 0, Max}, [3]bool{api.Near: true, api.Down: true}}},
		{real(Max, 0x1p970), Rounded{[3]float64{0, 0, Max}, onlyDown}},
		{real(-Max, -Max), Rounded{[3]float64{0, -Max, 0}, onlyUp}},
		{big.NewRat(1, 3), Rounded{[3]float64{0x1.5555555555555p-2, 0x1.5555555555556p-2, 0x1.5555555555555p-2}, all}},
	} {
		got := Roundings(c.v)
		for _, d := range Directions() {
			if got.Is[d] != c.want.Is[d] || !Same(got.Number[d], c.want.Number[d]) {
				t.Errorf("%d by %d: %x %v, not %x %v", i, d, got.Number[d], got.Is[d], c.want.Number[d], c.want.Is[d])
			}
		}
	}
}

func TestMixerIsTheSame(t *testing.T) {
	var m, n Mixer
	for range 1000 {
		if m.Word() != n.Word() || m.Below(7) != n.Below(7) || m.Number(1020) != n.Number(1020) {
			t.Fatal("two runs differ")
		}
	}
}
