package point

import (
	"math"
	"testing"

	"ambit/api"
	"ambit/oracle"
	"ambit/samples"
)

// 14.1, 14.2: the chapter's examples.
func TestExamplesOfForms(t *testing.T) {
	expectOf(t, 1, dyad(1, 0), true)
	expectOf(t, -6, dyad(-3, 1), true)
	expectOf(t, 0.375, dyad(3, -3), true)
	expectOf(t, oracle.MinusZero(), api.Dyad{}, true)
	expectOf(t, math.NaN(), api.Dyad{}, false)
	expectMake(t, true, []byte{0, 4}, 1, dyad(-1, 3), api.OK)
	expectMake(t, true, []byte{0}, 5, api.Dyad{}, api.OK)
	for _, x := range []api.Dyad{{M: []byte{0, 1}}, {M: []byte{2}}, {E: 1}, {Neg: true}} {
		if e := Check(x); e != api.ErrArg {
			t.Errorf("Check(%v): %v", x, e)
		}
	}
}

// 14.3, 14.4: the chapter's examples.
func TestExamplesOfReckoning(t *testing.T) {
	all := operations()
	all[0].expect(t, dyad(1, 0), dyad(1, -3), dyad(9, -3), api.OK)
	all[1].expect(t, dyad(1, 0), dyad(1, 0), api.Dyad{}, api.OK)
	all[2].expect(t, dyad(3, 1), dyad(-5, -2), dyad(-15, -1), api.OK)
	expectShift(t, dyad(1, 0), 65537, api.Dyad{}, api.ErrBits)
	expectShift(t, api.Dyad{}, 1<<62, api.Dyad{}, api.OK)
	expectCmp(t, dyad(1, 0), dyad(3, -2), 1, true)
	expectCmp(t, dyad(-1, 9), api.Dyad{}, -1, true)
	expectRound(t, api.Up, dyad(1, -2000), oracle.Least, true)
	expectRound(t, api.Near, dyad(1, 1024), 0, false)
	expectRound(t, api.Down, dyad(1, 1024), oracle.Max, true)
}

// 14.5, 14.6, 14.7: the chapter's examples.
func TestExamplesOfNetworks(t *testing.T) {
	expectInput(t, api.Prop{C: numbers(1, 2), G: [][]float64{{1, -1}}}, []int{1}, 1, dyads(dyad(3, -1), dyad(3, -1)), api.OK)
	expectEval(t, netOf(samples.Line(2), dense(0.5, 1, 1), kind(api.KSquare)), dyads(dyad(1, 0), dyad(-1, 1)), dyads(dyad(1, -2)))
	expectNoEval(t, netOf(samples.Line(1), kind(api.KTanh)), dyads(api.Dyad{}), api.ErrKind, 1)
	expectClaim(t, numbers(1, -1, 0.25), dyads(dyad(1, 0), dyad(1, 1)), dyad(-3, -2), api.OK)
}
