package trim

import (
	"math"
	"math/big"
	"math/bits"
	"slices"
	"testing"

	"ambit/api"
	"ambit/oracle"
	"ambit/samples"
	"ambit/zono"
)

// laws goes through zonotopes, each with what it is reduced to; it tells how many were not bad then.
func laws(rounds int, law func(m *oracle.Mixer, z, y api.Zono)) int {
	var m oracle.Mixer
	good := 0
	for range rounds {
		z := mixed(&m)
		y := Reduce(z, m.Below(len(z.Ids)+1))
		if !y.Bad {
			good++
			law(&m, z, y)
		}
	}
	return good
}

// 11.4: with the same values for the columns that stay, each point lies no farther than R from where these put it.
func TestReducedHoldsPoints(t *testing.T) {
	good := laws(3000, func(m *oracle.Mixer, z, y api.Zono) {
		e := map[int]*big.Rat{}
		for _, id := range z.Ids {
			e[id] = m.Share()
		}
		for i := range z.N {
			x := plus(oracle.Exact(z.C[i]), times(m.Share(), oracle.Exact(z.R[i])))
			for k, id := range z.Ids {
				x = plus(x, times(e[id], oracle.Exact(z.G[k][i])))
			}
			x.Sub(x, oracle.Exact(y.C[i]))
			for k, id := range y.Ids {
				x.Sub(x, times(e[id], oracle.Exact(y.G[k][i])))
			}
			if x.Abs(x).Cmp(oracle.Exact(y.R[i])) > 0 {
				t.Errorf("%s to %s: a point lies %v outside", text(z), text(y), x)
			}
		}
	})
	if good < 1500 {
		t.Errorf("%d were reduced only", good)
	}
}

// 11.4: no support falls.
func TestReducedHasNoLesserSupport(t *testing.T) {
	both, more := 0, 0
	laws(6000, func(m *oracle.Mixer, z, y api.Zono) {
		d := make([]float64, z.N)
		for i := range d {
			d[i] = m.Number(m.Below(3) - 1)
		}
		far, ok := zono.Support(z, d)
		farther, is := zono.Support(y, d)
		if !ok || !is {
			return
		}
		both++
		if farther > far {
			more++
		}
		if farther < far {
			t.Errorf("%s goes to %v at %v, but %s to %v", text(z), far, d, text(y), farther)
		}
	})
	if both < 2000 || more < 500 {
		t.Errorf("%d supports of both only, %d of them farther", both, more)
	}
}

// 11.5: every choice of as many columns is held against those let go.
func TestLeastLossGoes(t *testing.T) {
	choices := 0
	good := laws(1500, func(m *oracle.Mixer, z, y api.Zono) {
		many := len(z.Ids) - len(y.Ids)
		lost := new(big.Rat)
		for k, id := range z.Ids {
			if !slices.Contains(y.Ids, id) {
				lost = plus(lost, wantLoss(z.G[k]))
			}
		}
		for choice := range uint(1) << len(z.Ids) {
			if bits.OnesCount(choice) != many {
				continue
			}
			choices++
			sum := new(big.Rat)
			for k, g := range z.G {
				if choice>>k&1 == 1 {
					sum = plus(sum, wantLoss(g))
				}
			}
			if sum.Cmp(lost) < 0 {
				t.Errorf("%s to %s: the choice %b loses less", text(z), text(y), choice)
			}
		}
	})
	if good < 700 || choices < 3*good {
		t.Errorf("%d were reduced only, %d choices looked at", good, choices)
	}
}

// bySteps is z reduced one column at a time, or several, down to as many as most.
func bySteps(m *oracle.Mixer, z api.Zono, most int) api.Zono {
	for len(z.Ids) > most {
		z = Reduce(z, most+m.Below(len(z.Ids)-most))
		if z.Bad {
			return z
		}
	}
	return z
}

// 11.6: once and in steps.
func TestStepsKeepTheSame(t *testing.T) {
	stepped, wider := 0, 0
	laws(6000, func(m *oracle.Mixer, z, y api.Zono) {
		s := bySteps(m, Reduce(z, len(z.Ids)), len(y.Ids))
		if s.Bad {
			return
		}
		stepped++
		if !slices.Equal(s.Ids, y.Ids) || !samples.SameLists(s.G, y.G) || !samples.SameNumbers(s.C, y.C) {
			t.Errorf("%s once: %s, in steps: %s", text(z), text(y), text(s))
		}
		for i, r := range s.R {
			if r < y.R[i] {
				t.Errorf("%s once: %s, in steps less: %s", text(z), text(y), text(s))
			}
			if r > y.R[i] {
				wider++
			}
		}
	})
	if stepped < 2500 || wider < 40 {
		t.Errorf("%d went in steps only, %d coordinates were wider", stepped, wider)
	}
}

// 11.6: a step may be rounded up where all at once would need no more.
func TestStepsRoundMore(t *testing.T) {
	z := around(1, ids(0, 1), numbers(0x1p53), numbers(1))
	z.R[0] = 1
	want := around(1, nil)
	want.R[0] = 0x1p53 + 2
	expectReduce(t, z, 0, want)
	want.R[0] = 0x1p53 + 4
	expectReduce(t, Reduce(z, 1), 0, want)
}

// 11.6: a step may be bad where all at once is not, since each step is rounded for itself.
func TestStepsPastTheGreatest(t *testing.T) {
	z := around(1, ids(0, 1), numbers(oracle.Max-0x1p971), numbers(0x1p970))
	z.R[0] = 0x1p970
	want := around(1, nil)
	want.R[0] = oracle.Max
	expectReduce(t, z, 0, want)
	expectReduce(t, Reduce(z, 1), 0, samples.BadZono(1))
}

// 11.2: the sign of a nought turns nothing, and none is told.
func TestSignsOfNoughtsTurnNothing(t *testing.T) {
	flip := func(l []float64) []float64 {
		all := slices.Clone(l)
		for i, a := range all {
			if a == 0 {
				all[i] = -a
			}
		}
		return all
	}
	noughts := 0
	laws(2000, func(m *oracle.Mixer, z, y api.Zono) {
		p := of(flip(z.C), z.Ids, nil, flip(z.R))
		for _, g := range z.G {
			p.G = append(p.G, flip(g))
		}
		expectOrder(t, p, Order(z)...)
		expectReduce(t, p, len(y.Ids), y)
		for _, l := range append(y.G, y.C, y.R) {
			for _, a := range l {
				if a == 0 {
					noughts++
				}
				if a == 0 && math.Signbit(a) {
					t.Errorf("%s tells a nought with a sign", text(y))
				}
			}
		}
	})
	if noughts < 500 {
		t.Errorf("%d noughts only", noughts)
	}
}

// 11.7: what is handed in stays, with the room behind it, and whoever writes into an answer changes nothing of it.
func TestArgumentsStay(t *testing.T) {
	for most := -1; most <= 5; most++ {
		z := samples.RoomyZono()
		before := samples.WholeZono(z)
		got := Reduce(z, most)
		want := samples.WholeZono(got)
		samples.ScribbleZono(got)
		if !samples.SameZono(samples.WholeZono(z), before) {
			t.Errorf("to %d: what was given is changed, or a part of the answer", most)
		}
		again := Reduce(z, most)
		samples.ScribbleZono(z)
		if !samples.SameZono(samples.WholeZono(again), want) {
			t.Errorf("to %d: what was given is kept", most)
		}
	}
}

// 11.7: of Order too.
func TestOrderIsNew(t *testing.T) {
	z := samples.RoomyZono()
	before := samples.WholeZono(z)
	got := Order(z)
	want := slices.Clone(got)
	samples.Scribble(got, -1)
	if !samples.SameZono(samples.WholeZono(z), before) {
		t.Error("what was given is changed, or a part of the answer")
	}
	again := Order(z)
	samples.ScribbleZono(z)
	if !slices.Equal(again, want) {
		t.Errorf("%v, not %v", again, want)
	}
}

// 11.7: no two lists of one answer share any memory, even if those that were handed in do.
func TestListsShareNothing(t *testing.T) {
	l := numbers(1, 2, 3)
	for most := range 4 {
		z := Reduce(of(l, ids(0, 1, 2), lists(l, l, l), l), most)
		if z.Bad || len(z.Ids) != most {
			t.Errorf("to %d: %s", most, text(z))
		}
		all := append(slices.Clone(samples.Whole(z.G)), z.C, z.R)
		for i, a := range all {
			samples.Scribble(a, float64(i))
		}
		for i, a := range all {
			if slices.ContainsFunc(samples.Whole(a), func(x float64) bool { return x != float64(i) }) {
				t.Errorf("to %d: the list %d shares memory", most, i)
			}
		}
	}
	if !samples.SameNumbers(l, numbers(1, 2, 3)) {
		t.Errorf("what was handed in is now %v", l)
	}
}

// 11.7: room behind lists tells nothing.
func TestRoomTurnsNothing(t *testing.T) {
	roomy, tight := samples.RoomyZono(), samples.WideZono(3, 4)
	expectOrder(t, roomy, Order(tight)...)
	for most := -1; most <= 5; most++ {
		expectReduce(t, roomy, most, Reduce(tight, most))
	}
}

// 11.7: whatever is handed in, an answer is a zonotope with no more columns than were asked for, or a bad one.
func TestAnyInputEnds(t *testing.T) {
	var m oracle.Mixer
	for range 5000 {
		z, most := samples.AnyZono(&m), samples.AnyWhole(&m)
		Cap(samples.AnyWhole(&m), samples.AnyWhole(&m))
		order, y := Order(z), Reduce(z, most)
		if zono.Check(y) != api.OK || len(y.Ids) > max(most, 0) || len(order) > len(z.Ids) {
			t.Errorf("%s to %d: %s and %v", text(z), most, text(y), order)
		}
	}
}

// 11.3, 11.7: as many columns as may come together behind a layer of MaxWidth, reduced to what may stay; with every R lifted there are no more than K n.
func TestManyColumns(t *testing.T) {
	z := samples.WideZono(api.MaxWidth, api.MaxK*api.MaxWidth+api.MaxSymbols+api.MaxWidth)
	most := Cap(api.MaxK, api.MaxWidth)
	y := Reduce(z, most)
	if y.Bad || len(y.Ids) != most {
		t.Fatalf("%v %d", y.Bad, len(y.Ids))
	}
	lifted, _ := zono.Lift(y, api.MaxId-api.MaxWidth)
	if lifted.Bad || len(lifted.Ids) > api.MaxK*api.MaxWidth {
		t.Errorf("%v %d", lifted.Bad, len(lifted.Ids))
	}
}
