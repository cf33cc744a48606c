package lin

import (
	"fmt"
	"math/big"
	"slices"
	"testing"

	"ambit/api"
	"ambit/oracle"
	"ambit/rows"
	"ambit/samples"
	"ambit/zono"
)

// laws goes through layers and zonotopes, each with its step; it tells how many were not bad.
func laws(rounds int, law func(m *oracle.Mixer, z api.Zono, s sample, y api.Zono)) int {
	var m oracle.Mixer
	good := 0
	for range rounds {
		s := someLayer(&m)
		z := someZono(&m, s.size())
		if y, e := Step(z, s.l, s.in, 1+m.Below(16)); e == api.OK && !y.Bad {
			good++
			law(&m, z, s, y)
		}
	}
	return good
}

// 12.3: with the same values for all Ids, what the layer tells exactly lies no farther than R from where the answer's columns put it.
func TestStepHoldsPoints(t *testing.T) {
	good := laws(2500, func(m *oracle.Mixer, z api.Zono, s sample, y api.Zono) {
		e := map[int]*big.Rat{}
		for _, id := range z.Ids {
			e[id] = m.Share()
		}
		x := oracle.Spread(z, e)
		for j, r := range z.R {
			x[j] = plus(x[j], times(m.Share(), oracle.Exact(r)))
		}
		put := oracle.Spread(y, e)
		for i, v := range oracle.Tells(s.l, s.in, s.told(), x) {
			if off := size(minus(v, put[i])); off.Cmp(oracle.Exact(y.R[i])) > 0 {
				t.Fatalf("%s by %s to %s: at %v the coordinate %d is off by %v", text(z), text(s.l), text(y), e, i, off)
			}
		}
	})
	if good < 1000 {
		t.Errorf("%d steps only", good)
	}
}

// 12.3: a column that a sum of two layers' images would cancel does so: Ids keep their values through a step.
func TestIdsHangTogether(t *testing.T) {
	z := of(numbers(1, 2), ids(4, 7), lists(numbers(3, 5), numbers(0, 1)), numbers(0, 0))
	a, _ := Step(z, dense(numbers(1, 2), numbers(0)), samples.Line(2), 1)
	b, _ := Step(z, dense(numbers(-1, -2), numbers(9)), samples.Line(2), 2)
	if sum := zono.Plus(a, b); !samples.SameZono(sum, point(9)) {
		t.Errorf("%s and %s make %s", text(a), text(b), text(sum))
	}
}

// isExact tells whether a real is a number.
func isExact(v *big.Rat) bool {
	a, _ := v.Float64()
	return isNumber(a) && oracle.Exact(a).Cmp(v) == 0
}

// 12.4: of a zonotope without a box, the answer has one at just those coordinates at which a sum is no number; and where it has none, it tells the sums themselves.
func TestStepIsNoWider(t *testing.T) {
	tight, loose := 0, 0
	laws(4000, func(m *oracle.Mixer, z api.Zono, s sample, y api.Zono) {
		if someBox(z) {
			return
		}
		w, b := matrix(s)
		for i, r := range y.R {
			all := []*big.Rat{plus(products(w[i], exacts(z.C)), b[i])}
			for _, g := range z.G {
				all = append(all, products(w[i], exacts(g)))
			}
			if slices.ContainsFunc(all, func(v *big.Rat) bool { return !isExact(v) }) {
				loose++
				if r == 0 {
					t.Fatalf("%s by %s: %s has no box at %d", text(z), text(s.l), text(y), i)
				}
				continue
			}
			tight++
			if r != 0 || all[0].Cmp(oracle.Exact(y.C[i])) != 0 {
				t.Fatalf("%s by %s: %s at %d, where the centre is %v, and nothing is lost", text(z), text(s.l), text(y), i, all[0])
			}
			for k, id := range z.Ids {
				if got := columnAt(y, id, i); all[1+k].Cmp(oracle.Exact(got)) != 0 {
					t.Fatalf("%s by %s: %s has %v of %d at %d, not %v", text(z), text(s.l), text(y), got, id, i, all[1+k])
				}
			}
		}
	})
	if tight < 500 || loose < 500 {
		t.Errorf("%d coordinates without a loss, %d with one", tight, loose)
	}
}

// columnAt is z's number of an Id at a coordinate: 0, if z has not that Id.
func columnAt(z api.Zono, id, i int) float64 {
	if k := slices.Index(z.Ids, id); k >= 0 {
		return z.G[k][i]
	}
	return 0
}

// 12.4: with small whole numbers nothing is ever lost: the step of a step is the step of both layers as one.
func TestStepsOfWholeNumbers(t *testing.T) {
	var m oracle.Mixer
	number := wholes(&m)
	for range 400 {
		n, k, o := 1+m.Below(4), 1+m.Below(4), 1+m.Below(4)
		z := about(n, ids(1, 2, 3), listOf(n, number), listOf(n, number), listOf(n, number))
		z.C = listOf(n, number)
		a, b := dense(listOf(k*n, number), listOf(k, number)), dense(listOf(o*k, number), listOf(o, number))
		both := dense(make([]float64, o*n), slices.Clone(b.B))
		for i := range o {
			for j := range k {
				both.B[i] += b.W[i*k+j] * a.B[j]
				for c := range n {
					both.W[i*n+c] += b.W[i*k+j] * a.W[j*n+c]
				}
			}
		}
		y, _ := Step(z, a, samples.Line(n), 3)
		want, _ := Step(z, both, samples.Line(n), 2)
		if someBox(y) || someBox(want) || want.Bad {
			t.Errorf("%s and %s have a box", text(y), text(want))
		}
		expectStep(t, y, b, samples.Line(k), want)
	}
}

// expectRows holds a part's step to the rows of a whole one's, which stand at places; ids are all that there were.
func expectRows(t *testing.T, whole, part api.Zono, places, ids []int) {
	t.Helper()
	want := api.Zono{N: len(places)}
	for _, i := range places {
		want.C, want.R = append(want.C, whole.C[i]), append(want.R, whole.R[i])
	}
	for _, id := range ids {
		var g []float64
		for _, i := range places {
			g = append(g, columnAt(whole, id, i))
		}
		if slices.ContainsFunc(g, func(a float64) bool { return a != 0 }) {
			want.Ids, want.G = append(want.Ids, id), append(want.G, g)
		}
	}
	if !samples.SameZono(part, want) {
		t.Errorf("the rows %v of %s: %s, not %s", places, text(whole), text(part), text(want))
	}
}

// somePlaces are some of n rows, in any order.
func somePlaces(m *oracle.Mixer, n int) []int {
	l := make([]int, 1+m.Below(4))
	for i := range l {
		l[i] = m.Below(n)
	}
	return l
}

// 12.5: some rows of any layer, as a KDense of their own.
func TestRowsInParts(t *testing.T) {
	good := laws(2000, func(m *oracle.Mixer, z api.Zono, s sample, y api.Zono) {
		places := somePlaces(m, s.rows())
		part := dense(make([]float64, len(places)*s.size()), make([]float64, len(places)))
		for p, i := range places {
			cols, w, b, _ := rows.Row(s.l, s.in, i)
			part.B[p] = b
			for k, j := range cols {
				part.W[p*s.size()+j] = w[k]
			}
		}
		got, e := Step(z, part, s.in, 1+m.Below(16))
		if e != api.OK {
			t.Fatal(e)
		}
		expectRows(t, y, got, places, z.Ids)
	})
	if good < 800 {
		t.Errorf("%d steps only", good)
	}
}

// 12.5: one filter of several, and one complex row of several.
func TestFiltersAndTurnsInParts(t *testing.T) {
	parts := 0
	laws(3000, func(m *oracle.Mixer, z api.Zono, s sample, y api.Zono) {
		l := s.l
		f := m.Below(max(l.Out, 1))
		many := s.rows() / max(l.Out, 1)
		switch l.Kind {
		case api.KConv, api.KDense:
			n := len(l.W) / l.Out
			l.W, l.B = l.W[f*n:(f+1)*n], l.B[f:f+1]
		case api.KTurn:
			n := len(l.Z) / l.Out
			l.Z, l.ZB = l.Z[f*n:(f+1)*n], l.ZB[f:f+1]
		default:
			return
		}
		l.Out = 1
		parts++
		var places []int
		for i := range many {
			places = append(places, f*many+i)
		}
		got, e := Step(z, l, s.in, 1+m.Below(16))
		if e != api.OK {
			t.Fatal(e)
		}
		expectRows(t, y, got, places, z.Ids)
	})
	if parts < 500 {
		t.Errorf("%d parts only", parts)
	}
}

// 12.2: a step is the images of its rows.
func TestStepIsImages(t *testing.T) {
	laws(1000, func(m *oracle.Mixer, z api.Zono, s sample, y api.Zono) {
		for i := range s.rows() {
			cols, some, b, _ := rows.Row(s.l, s.in, i)
			w := make([]float64, s.size())
			for k, j := range cols {
				w[j] = some[k]
			}
			var g []float64
			for _, id := range z.Ids {
				g = append(g, columnAt(y, id, i))
			}
			expectImage(t, z, w, b, y.C[i], g, y.R[i])
		}
	})
}

// 12.6: the same for every number of workers, also where it is bad.
func TestEveryCrewTellsTheSame(t *testing.T) {
	var m oracle.Mixer
	for range 400 {
		s := someLayer(&m)
		z := someZono(&m, s.size())
		want, _ := Step(z, s.l, s.in, 1)
		for workers := 2; workers <= api.MaxWorkers; workers++ {
			if got, e := Step(z, s.l, s.in, workers); e != api.OK || !samples.SameZono(got, want) {
				t.Fatalf("%d workers: %s %v, one alone: %s", workers, text(got), e, text(want))
			}
		}
	}
	l := someDense(&m, 256, 100)
	z := samples.WideZono(100, 30)
	want, _ := Step(z, l, samples.Line(100), 1)
	for range 10 {
		expectStep(t, z, l, samples.Line(100), want)
	}
}

// 12.6: whatever is handed in, a call ends, and answers what may be answered, twice the same.
func TestAnythingEnds(t *testing.T) {
	var m oracle.Mixer
	seen := oracle.Tally{}
	for range 6000 {
		z := samples.AnyZono(&m)
		n := samples.AnyNet(&m)
		l, in := samples.Relu(), n.In
		if len(n.Layers) > 0 {
			l = n.Layers[0]
		}
		if m.Below(2) == 0 {
			s := someLayer(&m)
			l, in = s.l, s.in
			if m.Below(2) == 0 {
				z = someZono(&m, s.size())
			}
		}
		workers := samples.AnyWhole(&m)
		y, e := Step(z, l, in, workers)
		again, f := Step(z, l, in, workers)
		if e != f || !samples.SameZono(y, again) || e != api.OK && !samples.SameZono(y, api.Zono{}) || e == api.OK && zono.Check(y) != api.OK {
			t.Fatalf("Step of %s by %s over %v, of %d: %s %v and %s %v", text(z), text(l), in, workers, text(y), e, text(again), f)
		}
		for _, list := range append(slices.Clone(y.G), y.C, y.R) {
			if slices.ContainsFunc(list, func(a float64) bool { return oracle.Same(a, oracle.MinusZero()) }) {
				t.Fatalf("%s tells a nought with a sign", text(y))
			}
		}
		seen.Note(fmt.Sprint(e), true)
		seen.Note("bad", y.Bad)
		seen.Note("good", e == api.OK && !y.Bad)
	}
	seen.Expect(t, 100, "bad", "good", fmt.Sprint(api.ErrArg), fmt.Sprint(api.ErrKind), fmt.Sprint(api.ErrField), fmt.Sprint(api.ErrShape), fmt.Sprint(api.ErrCount))
}

// 12.1, 12.2, Numbers: the sign of a nought turns nothing.
func TestSignsOfNoughtsTurnNothing(t *testing.T) {
	flip := func(l []float64) []float64 {
		all := slices.Clone(l)
		for i, a := range all {
			if a == 0 {
				all[i] = -a
			}
		}
		return all
	}
	laws(1500, func(m *oracle.Mixer, z api.Zono, s sample, y api.Zono) {
		p := of(flip(z.C), z.Ids, nil, flip(z.R))
		for _, g := range z.G {
			p.G = append(p.G, flip(g))
		}
		l := s.l
		l.W, l.B = flip(l.W), flip(l.B)
		expectStep(t, p, l, s.in, y)
	})
}
