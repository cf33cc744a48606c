package margin

import (
	"slices"
	"testing"

	"ambit/api"
	"ambit/oracle"
	"ambit/samples"
)

// wholeLists is a copy of some lists in which the room behind each, and behind all, counts as a part of them.
func wholeLists(l [][]float64) [][]float64 {
	all := slices.Clone(samples.Whole(l))
	for i, a := range all {
		all[i] = slices.Clone(samples.Whole(a))
	}
	return all
}

// roomyLists are copies of some lists with more behind the end of each, and of all.
func roomyLists(l [][]float64) [][]float64 {
	all := samples.Roomy(l, numbers(7))
	for i, a := range all {
		all[i] = samples.Roomy(a, 8)
	}
	return all
}

// scribbleLists writes all over some lists, behind their ends too.
func scribbleLists(l [][]float64) {
	for _, a := range samples.Whole(l) {
		samples.Scribble(a, 66)
	}
	samples.Scribble(l, numbers(67))
}

// memoryProps are questions to a network of 4 outputs, each with another sort of claims.
func memoryProps() []api.Prop {
	all := make([]api.Prop, 4)
	for i := range all {
		all[i] = samples.RoomyProp()
	}
	all[1].Target = -1
	all[2].Claims = all[2].Claims[:0]
	all[3].Target = 9
	return all
}

// 17.1, rule 3: a question stays, with the room behind its lists; whoever writes into an answer, or into what was handed in, changes nothing of the other.
func TestQuestionsStay(t *testing.T) {
	for _, p := range memoryProps() {
		before := samples.WholeProp(p)
		got, e := Claims(p, 4)
		want := wholeLists(got)
		scribbleLists(got)
		if !samples.SameProp(samples.WholeProp(p), before) {
			t.Errorf("%s: what was given is changed, or a part of the answer", text(p))
		}
		again, f := Claims(p, 4)
		scribbleLists(p.Claims)
		if e != f || !samples.SameLists(wholeLists(again), want) {
			t.Errorf("%s: what was given is kept, or an answer was", text(p))
		}
	}
}

// 17.1, rule 3: no two claims share any memory, even if those that were handed in do.
func TestClaimsShareNothing(t *testing.T) {
	same := numbers(1, 2, 3, 4)
	got, e := Claims(aimed(1, same, same, same[:4:4]), 3)
	if e != api.OK || len(got) != 5 {
		t.Fatalf("%v %v", got, e)
	}
	if i := samples.Sharing(samples.Whole(got)[:5], func(i int) float64 { return float64(i) }); i >= 0 {
		t.Errorf("the claim %d shares memory", i)
	}
	if !samples.SameNumbers(same, numbers(1, 2, 3, 4)) {
		t.Errorf("what was handed in is now %v", same)
	}
}

// memoryZonos are zonotopes of three coordinates with more behind the end of each list, one that is bad, and one that is none.
func memoryZonos() []api.Zono {
	spoilt := samples.RoomyZono()
	spoilt.Ids[0] = 99
	bad := api.Zono{N: 3, Bad: true, C: make([]float64, 0, 4), G: make([][]float64, 0, 4)}
	return []api.Zono{samples.RoomyZono(), samples.RoomyWideZono(3, 0), bad, spoilt}
}

// 17.2 to 17.4, rule 3: zonotopes and claims stay, with the room behind their lists.
func TestZonotopesStay(t *testing.T) {
	for _, z := range memoryZonos() {
		for _, claims := range [][][]float64{lists(numbers(1, 2, -3, 4), numbers(0, -1, 0, 0)), lists(numbers(1, 2)), nil} {
			claims = roomyLists(claims)
			before, asked := samples.WholeZono(z), wholeLists(claims)
			Worst(z, claims)
			for _, a := range claims {
				Margin(z, a)
				Signs(z, a, 9)
				if len(Signs(z, a, 300)) > 0 {
					t.Error("signs of too many symbols")
				}
			}
			if !samples.SameZono(samples.WholeZono(z), before) || !samples.SameLists(wholeLists(claims), asked) {
				t.Errorf("%s, %s: what was given is changed", text(z), text(claims))
			}
		}
	}
}

// 17.4, rule 3: signs are new memory.
func TestSignsAreNew(t *testing.T) {
	for _, z := range memoryZonos() {
		a := numbers(1, 2, -3, 4)
		for _, k := range []int{0, 1, 9, 256} {
			got := Signs(z, a, k)
			want := slices.Clone(samples.Whole(got))
			samples.Scribble(got, 55)
			if again := Signs(z, a, k); !slices.Equal(samples.Whole(again), want) {
				t.Errorf("%s: an answer was kept: %v, not %v", text(z), again, want)
			}
		}
	}
}

// whole is a copy of a call in which the room behind each list counts as a part of it.
func (c call) whole() call {
	return call{samples.WholeNet(c.n), samples.WholeProp(c.p), samples.WholeRegion(c.r), slices.Clone(samples.Whole(c.signs))}
}

func (c call) same(d call) bool {
	return samples.SameNet(c.n, d.n) && samples.SameProp(c.p, d.p) && samples.SameRegion(c.r, d.r) && slices.Equal(c.signs, d.signs)
}

// roomy is a call with more behind the end of each of its lists.
func roomy(c call) call {
	return call{samples.RoomyNetOf(c.n), samples.RoomyPropOf(c.p), samples.RoomyRegion(c.r), samples.Roomy(c.signs, 2)}
}

// scribble writes all over a call's lists of numbers, behind their ends too.
func (c call) scribble() {
	numbers, pairs := samples.Lists(c.n)
	for _, l := range slices.Concat(numbers, c.p.G, c.p.Claims, lists(c.p.C)) {
		samples.Scribble(l, -5)
	}
	for _, l := range pairs {
		samples.Scribble(l, -6i)
	}
	samples.Scribble(c.r.Level, 1)
	samples.Scribble(c.r.At, 1)
	samples.Scribble(c.signs, 1)
}

// memoryCalls are ordinary calls of each kind, with symbols and without, and some that are refused.
func memoryCalls() []call {
	var all []call
	for _, n := range samples.Nets() {
		for _, k := range []int{0, 3} {
			p := samples.QuestionTo(n, k)
			_, out := samples.Widths(n)
			p.Claims = append(p.Claims, make([]float64, out+1))
			p.Claims[1][out], p.K = -1, api.MaxK
			all = append(all, call{n, p, samples.Cube(k), make([]int, k)})
		}
	}
	other, refused := example(), example()
	other.p.Claims, other.signs = lists(numbers(1, 0, 0)), signs(-1)
	refused.r = region(3, 8)
	long := alone(netOf(1, squares(11)...), lists(numbers(-1, 0)), 0.1)
	return append(all, example(), other, refused, long)
}

// 17.5, rule 3: what is handed to a trial stays, with the room behind it, and nothing of it is kept.
func TestTrialsChangeNothing(t *testing.T) {
	told := 0
	for _, ordinary := range memoryCalls() {
		c := roomy(ordinary)
		before := c.whole()
		claim, gap, ok := Trial(c.n, c.p, c.r, c.signs)
		if !c.whole().same(before) {
			t.Errorf("%s: what was given is changed", text(ordinary))
		}
		c.scribble()
		if again, f, is := Trial(ordinary.n, ordinary.p, ordinary.r, ordinary.signs); again != claim || !oracle.Same(f, gap) || is != ok {
			t.Errorf("%s: what was given is kept, or the room behind it tells something", text(ordinary))
		}
		if ok {
			told++
		}
	}
	if told < 20 {
		t.Errorf("%d tell only", told)
	}
}

// 17.9, rule 3: what is handed to Idle stays, and what it tells is new memory.
func TestIdleChangesNothing(t *testing.T) {
	told := 0
	for _, ordinary := range memoryCalls() {
		c := roomy(ordinary)
		before := c.whole()
		got, ok := Idle(c.n, c.p)
		want := api.Dyad{Neg: got.Neg, M: slices.Clone(samples.Whole(got.M)), E: got.E}
		samples.Scribble(got.M, 0xa6)
		if !c.whole().same(before) {
			t.Errorf("%s: what was given is changed, or a part of the answer", text(ordinary))
		}
		again, is := Idle(c.n, c.p)
		c.scribble()
		again.M = samples.Whole(again.M)
		if is != ok || !oracle.SameDyad(again, want) {
			t.Errorf("%s: what was given is kept, or an answer was", text(ordinary))
		}
		if ok {
			told++
		}
	}
	if told < 8 {
		t.Errorf("%d tell only", told)
	}
}

// Rule 1: nil and empty lists mean the same.
func TestEmptyListsAreAsNil(t *testing.T) {
	n := netOf(1)
	n.Layers, n.Names = []api.Layer{}, []string{}
	p := asked(lists(numbers(1, 0)), numbers(-1))
	p.G = [][]float64{}
	for _, l := range [][]int{nil, {}} {
		call{n, p, api.Region{Level: l, At: l}, l}.expect(t, 0, 1)
		call{netOf(1), asked(p.Claims, numbers(-1)), api.Region{Level: l, At: l}, l}.expect(t, 0, 1)
	}
	expectIdle(t, n, p, end())
	z := api.Zono{N: 1, C: numbers(3), Ids: []int{}, G: [][]float64{}, R: numbers(0)}
	expectMargin(t, z, numbers(1, 0), 3)
	expectNoWorst(t, z, [][]float64{})
	expectNoWorst(t, z, [][]float64{{}})
	expectNoMargin(t, z, []float64{})
	expectNoSigns(t, z, []float64{}, 3)
	expectSigns(t, z, numbers(1, 0), 0)
}
