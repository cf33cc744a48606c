package samples

import (
	"math/big"
	"slices"
	"testing"

	"ambit/api"
	"ambit/model"
	"ambit/oracle"
	"ambit/span"
	"ambit/zono"
)

// outputs is how many coordinates a question's network may have.
func outputs(p api.Prop) int {
	if len(p.Claims) > 0 {
		return len(p.Claims[0]) - 1
	}
	return max(2, p.Target+1)
}

func TestAllMayBe(t *testing.T) {
	var m oracle.Mixer
	nets, props := append(Nets(), RoomyNet()), append(Props(), RoomyProp())
	for range 2000 {
		nets, props = append(nets, MixedNet(&m), NetOfKinds(&m, []int{1 + m.Below(12), api.KAdd, api.KRelu}, 1)), append(props, MixedProp(&m))
	}
	for _, n := range nets {
		if e, at := model.Check(n); e != api.OK {
			t.Errorf("%+v: %v at %d", n, e, at)
		}
	}
	for _, p := range props {
		if e, at := model.CheckProp(p, len(p.C), outputs(p)); e != api.OK {
			t.Errorf("%+v: %v at %d", p, e, at)
		}
	}
}

func TestQuestionsToNetworksMayBe(t *testing.T) {
	var m oracle.Mixer
	expect := func(n api.Net, p api.Prop) {
		t.Helper()
		in, out := Widths(n)
		if e, at := model.CheckProp(p, in, out); e != api.OK {
			t.Errorf("%+v to %+v: %v at %d", p, n, e, at)
		}
	}
	for _, n := range Nets() {
		for k := range 4 {
			expect(n, QuestionTo(n, k))
		}
		for range 50 {
			expect(n, MixedPropTo(&m, n))
		}
	}
	if p := QuestionTo(Chain(), 4); len(p.G) != 4 {
		t.Errorf("%d columns", len(p.G))
	}
}

func TestRefusedPropsAreRefused(t *testing.T) {
	for _, r := range RefusedProps() {
		if e, _ := model.CheckProp(r.Prop, 3, 4); e != r.Err {
			t.Errorf("%+v: %v, not %v", r.Prop, e, r.Err)
		}
	}
}

// isRegion tells whether r is a region of k symbols, by the words of chapter 16.
func isRegion(r api.Region, k int) bool {
	if len(r.Level) != k || len(r.At) != k {
		return false
	}
	for s, level := range r.Level {
		if level < 0 || level > 8 || r.At[s] < 0 || r.At[s] > 1<<level-1 {
			return false
		}
	}
	return true
}

func TestRegions(t *testing.T) {
	var m oracle.Mixer
	ends := oracle.Tally{}
	for k := range 5 {
		if !isRegion(Cube(k), k) {
			t.Errorf("no cube of %d", k)
		}
		for _, r := range NoRegions(k) {
			if isRegion(r, k) {
				t.Errorf("%+v is a region of %d", r, k)
			}
		}
		for range 500 {
			r := MixedRegion(&m, k)
			if !isRegion(r, k) {
				t.Errorf("%+v is no region of %d", r, k)
			}
			for s, level := range r.Level {
				ends.Note("the first of many", level == 8 && r.At[s] == 0)
				ends.Note("the last of many", level == 8 && r.At[s] == 255)
				ends.Note("all", level == 0)
			}
			is := isRegion(AnyRegion(&m, k), k)
			ends.Note("any", is)
			ends.Note("none", !is)
		}
	}
	ends.Expect(t, 100, "the first of many", "the last of many", "all", "any", "none")
}

func TestSameRegionTellsChanges(t *testing.T) {
	a := api.Region{Level: []int{1, 2}, At: []int{0, 3}}
	for _, b := range []api.Region{{Level: a.Level}, {At: a.At}, {Level: []int{1, 3}, At: a.At}, {Level: a.Level, At: []int{1, 3}}} {
		if SameRegion(a, b) {
			t.Errorf("%+v and %+v", a, b)
		}
	}
	r := RoomyRegion(a)
	before := WholeRegion(r)
	Whole(r.At)[2] = 1
	if SameRegion(WholeRegion(r), before) || !SameRegion(r, a) || !SameRegion(api.Region{At: []int{}}, api.Region{}) {
		t.Error("the room behind a list is not told, or a part of it")
	}
}

func TestRefusedNetsAreRefused(t *testing.T) {
	for _, r := range RefusedNets() {
		if e, at := model.Check(r.Net); e != r.Err || at != r.At {
			t.Errorf("%v at %d, not %v at %d", e, at, r.Err, r.At)
		}
	}
}

// changes are all ways to change one thing in a network.
func changes() []func(n *api.Net) {
	all := []func(n *api.Net){
		func(n *api.Net) { n.In.H++ },
		func(n *api.Net) { n.Names[1] += "x" },
		func(n *api.Net) { n.Names = n.Names[1:] },
		func(n *api.Net) { n.Layers = n.Layers[1:] },
		func(n *api.Net) { n.Layers[0].Kind++ },
		func(n *api.Net) { n.Layers[7].A = oracle.MinusZero() },
		func(n *api.Net) { n.Layers[0].W[4] = 0 },
		func(n *api.Net) { n.Layers[1].B = n.Layers[1].B[1:] },
		func(n *api.Net) { n.Layers[6].Z[1] = 0 },
		func(n *api.Net) { n.Layers[6].ZB[0] *= 1i },
	}
	for i := range wholesIn(&api.Layer{}) {
		all = append(all, func(n *api.Net) { *wholesIn(&n.Layers[5])[i]++ })
	}
	return all
}

func TestSameNetTellsChanges(t *testing.T) {
	if !SameNet(Chain(), Chain()) || !SameNet(api.Net{Names: []string{}}, api.Net{}) {
		t.Error("a network is another than itself")
	}
	for i, change := range changes() {
		n := Chain()
		change(&n)
		if SameNet(n, Chain()) || SameNet(Chain(), n) {
			t.Errorf("the change %d is not told", i)
		}
	}
}

func TestSamePropTellsChanges(t *testing.T) {
	if !SameProp(Question(), Question()) || !SameProp(api.Prop{G: [][]float64{{}}}, api.Prop{G: [][]float64{nil}}) {
		t.Error("a question is another than itself")
	}
	for i, change := range []func(p *api.Prop){
		func(p *api.Prop) { p.C[0] = 9 },
		func(p *api.Prop) { p.G[1][2] = 9 },
		func(p *api.Prop) { p.G = p.G[1:] },
		func(p *api.Prop) { p.Claims[2][4] = oracle.MinusZero() },
		func(p *api.Prop) { p.Claims[2] = nil },
		func(p *api.Prop) { p.Target++ },
		func(p *api.Prop) { p.K++ },
		func(p *api.Prop) { p.Depth++ },
		func(p *api.Prop) { p.Looks++ },
	} {
		p := Question()
		change(&p)
		if SameProp(p, Question()) {
			t.Errorf("the change %d is not told", i)
		}
	}
}

func TestRoomCounts(t *testing.T) {
	n, p := RoomyNet(), RoomyProp()
	before, asked := WholeNet(n), WholeProp(p)
	Whole(n.Layers[0].W)[len(n.Layers[0].W)] = 1
	Whole(p.Claims[1])[len(p.Claims[1])] = 1
	if SameNet(WholeNet(n), before) || SameProp(WholeProp(p), asked) {
		t.Error("what was written into the room behind a list is not told")
	}
	if !SameNet(n, Chain()) || !SameProp(p, Question()) {
		t.Error("the room behind a list is a part of it")
	}
}

func TestSpansMayBe(t *testing.T) {
	var m oracle.Mixer
	for range 2000 {
		if s := MixedSpan(&m, MixedKind(&m)); !span.Inside(s, s) {
			t.Errorf("%v may not be", s)
		}
	}
	for _, s := range NoSpans() {
		if span.Inside(s, s) {
			t.Errorf("%v may be", s)
		}
	}
}

func TestSameSpanTellsChanges(t *testing.T) {
	minus := oracle.MinusZero()
	all := []api.Span{Between(0, 0), Between(minus, 0), Between(0, minus), BadSpan(), Between(0, 1), Between(-1, 0)}
	for i, a := range all {
		for j, b := range all {
			if SameSpan(a, b) != (i == j) || SameSpans([]api.Span{a, a}, []api.Span{a, b}) != (i == j) {
				t.Errorf("%v and %v", a, b)
			}
		}
	}
	if !SameSpans(nil, []api.Span{}) || SameSpans(all, all[1:]) {
		t.Error("lists of other lengths are alike, or empty ones are not")
	}
}

func TestZonotopesMayBe(t *testing.T) {
	var m oracle.Mixer
	all := []api.Zono{RoomyZono(), WideZono(1, 0), WideZono(256, 300), BadZono(0), BadZono(256)}
	for n := range 2000 {
		all = append(all, MixedZono(&m, 1+n%4))
	}
	for _, z := range all {
		if e := zono.Check(z); e != api.OK {
			t.Errorf("%+v: %v", z, e)
		}
	}
	for _, z := range SpoiltZonos() {
		if zono.Check(z) == api.OK {
			t.Errorf("%+v may be", z)
		}
	}
}

func TestSameZonoTellsChanges(t *testing.T) {
	if !SameZono(WideZono(3, 4), WideZono(3, 4)) || !SameZono(api.Zono{Ids: []int{}}, api.Zono{}) {
		t.Error("a zonotope is another than itself")
	}
	for i, change := range []func(z *api.Zono){
		func(z *api.Zono) { z.N++ },
		func(z *api.Zono) { z.Bad = true },
		func(z *api.Zono) { z.C[1] = 9 },
		func(z *api.Zono) { z.C = z.C[1:] },
		func(z *api.Zono) { z.Ids[3]++ },
		func(z *api.Zono) { z.G[1][2] = -z.G[1][2] },
		func(z *api.Zono) { z.G = z.G[1:] },
		func(z *api.Zono) { z.R[2] = -z.R[2] },
	} {
		z := WideZono(3, 4)
		change(&z)
		if SameZono(z, WideZono(3, 4)) {
			t.Errorf("the change %d is not told", i)
		}
	}
	z := RoomyZono()
	before := WholeZono(z)
	Whole(z.G[1])[len(z.G[1])] = 1
	if SameZono(WholeZono(z), before) || !SameZono(z, WideZono(3, 4)) {
		t.Error("the room behind a list is not told, or a part of it")
	}
}

func TestKindsAreAll(t *testing.T) {
	all := EveryKind()
	for k := 1; k <= 12; k++ {
		if !slices.Contains(all, k) || slices.Contains(LinearKinds(), k) != (k <= 6) || slices.Contains(BentKinds(), k) != (k > 6) || slices.Contains(ExactKinds(), k) == Rises(api.Layer{Kind: k}) {
			t.Errorf("the kind %d is missing, or stands where it should not", k)
		}
	}
	if len(all) != 12 || len(ExactKinds()) != 10 {
		t.Errorf("%v", all)
	}
}

func sameReals(got []*big.Rat, want ...float64) bool {
	return slices.EqualFunc(got, want, func(v *big.Rat, a float64) bool { return v.Cmp(oracle.Exact(a)) == 0 })
}

func TestExactPoints(t *testing.T) {
	r := Region(1, 1, 0, 0, 2, 0)
	if !SameRegion(r, api.Region{Level: []int{1, 0, 2}, At: []int{1, 0, 0}}) || !SameRegion(Region(), api.Region{}) {
		t.Errorf("%+v", r)
	}
	m, h := Middles(r)
	if !sameReals(m, 0.5, 0, -0.75) || !sameReals(h, 0.5, 1, 0.25) {
		t.Errorf("%v %v", m, h)
	}
	p := api.Prop{C: []float64{10, 20}, G: [][]float64{{2, 0}, {0, 1}, {4, 8}}}
	x := PointAt(p, r, []*big.Rat{big.NewRat(1, 1), big.NewRat(-1, 2), big.NewRat(0, 1)})
	// The e are 1, -1/2 and -3/4.
	if !sameReals(x, 10+2-3, 20-0.5-6) {
		t.Errorf("%v", x)
	}
}

func TestExactOutputs(t *testing.T) {
	n := api.Net{In: Line(2), Layers: []api.Layer{{Kind: api.KDense, Out: 2, W: []float64{1, 1, 1, -1}, B: []float64{0, 1}}, {Kind: api.KSquare}, Add(1), {Kind: api.KTanh}}}
	all := OutputsAt(n, []*big.Rat{big.NewRat(2, 1), big.NewRat(3, 1)})
	if len(all) != 5 || !sameReals(all[0], 2, 3) || !sameReals(all[1], 5, 0) || !sameReals(all[2], 25, 0) || !sameReals(all[3], 30, 0) {
		t.Errorf("%v", all)
	}
	low, high := oracle.Tanh(big.NewRat(30, 1))
	if v := all[4][0]; v.Cmp(high) > 0 || minus(low, v).Cmp(oracle.Power(-4000)) > 0 || all[4][1].Sign() != 0 {
		t.Errorf("%v", all[4])
	}
}

func TestAskedOfKindsMayBe(t *testing.T) {
	var m oracle.Mixer
	for range 500 {
		n, p, r := AskedOfKinds(&m, EveryKind(), 1)
		in, out := Widths(n)
		if e, at := model.CheckProp(p, in, out); e != api.OK || len(n.Layers) == 0 || !isRegion(r, len(p.G)) {
			t.Errorf("%+v to %+v over %+v: %v at %d", p, n, r, e, at)
		}
	}
}

func TestSharingIsTold(t *testing.T) {
	mark := func(i int) int { return i + 5 }
	room := make([]int, 6)
	for i, c := range []struct {
		lists [][]int
		want  int
	}{
		{[][]int{{1}, {2, 3}, nil}, -1},
		{[][]int{room[:2:2], room[2:4:4], room[4:]}, -1},
		{[][]int{{1}, room[:2], room[2:]}, 1},
		{[][]int{room, {1}, room}, 0},
		{[][]int{room[0:3:3], room[2:]}, 0},
	} {
		if got := Sharing(c.lists, mark); got != c.want {
			t.Errorf("%d: %d, not %d", i, got, c.want)
		}
	}
}
