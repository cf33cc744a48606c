package cases

import (
	"math/big"
	"testing"

	"ambit/api"
	"ambit/model"
	"ambit/oracle"
	"ambit/samples"
)

func TestMixedMayBe(t *testing.T) {
	var m oracle.Mixer
	for range 1000 {
		n, p := Mixed(&m)
		if e, _ := model.Check(n); e != api.OK {
			t.Fatalf("%+v: %v", n, e)
		}
		in, out := samples.Widths(n)
		if e, _ := model.CheckProp(p, in, out); e != api.OK {
			t.Fatalf("%+v to %+v: %v", p, n, e)
		}
	}
}

// at is a share of the one symbol of Unit.
func at(up, down int64) []*big.Rat { return []*big.Rat{big.NewRat(up, down)} }

func TestBumpsAndKinks(t *testing.T) {
	p := Unit([]float64{1, 0, 0}, []float64{0, 1, 0})
	n := Bumps(1.5, []float64{-0.5, 0.5}, []float64{0})
	for _, c := range []struct {
		up, down    int64
		first, last float64
	}{{-1, 2, 1.5, 0}, {1, 2, 1.5, 0}, {0, 1, 0, 1.5}, {5, 8, 0.75, 0}, {3, 4, 0, 0}, {-1, 1, 0, 0}, {1, 8, 0, 0.75}} {
		sums := SumsAt(n, p, at(c.up, c.down))
		if len(sums) != 2 || sums[0].Cmp(oracle.Exact(c.first)) != 0 || sums[1].Cmp(oracle.Exact(c.last)) != 0 {
			t.Errorf("%v: %v", c, sums)
		}
		if sums := SumsAt(Kinks(-0.5, 0.25), Unit([]float64{4, 0.125}), at(c.up, c.down)); sums[0].Cmp(oracle.Exact(0.125)) != 0 {
			t.Errorf("%v: %v", c, sums)
		}
	}
}

func TestExampleHasAFurtherClaim(t *testing.T) {
	for further, want := range map[bool]int{false: 1, true: 2} {
		n, p := Example(further)
		if claims := Claims(n, p); len(claims) != want || !samples.SameNumbers(claims[0], []float64{1, -1, 0}) {
			t.Errorf("%v", claims)
		}
	}
	n, p := Example(true)
	if sums := SumsAt(n, p, at(-1, 1)); sums[0].Cmp(big.NewRat(1, 2)) != 0 || sums[1].Cmp(big.NewRat(-1, 4)) != 0 {
		t.Errorf("%v", sums)
	}
}
