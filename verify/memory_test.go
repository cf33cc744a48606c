package verify

import (
	"slices"
	"sync"
	"testing"

	"ambit/api"
	"ambit/cases"
	"ambit/samples"
)

// A given is a network and a question to it.
type given struct {
	n api.Net
	p api.Prop
}

// memoryCases are ordinary ones, of all kinds of layers and of all kinds of verdicts, and some that are refused.
func memoryCases() []given {
	var all []given
	for _, n := range samples.Nets() {
		for _, k := range []int{0, 3} {
			all = append(all, given{n, cases.Within(samples.QuestionTo(n, k), 3, 9)})
		}
	}
	for _, further := range []bool{false, true} {
		n, p := cases.Example(further)
		all = append(all, given{n, p})
		p.K = 9
		all = append(all, given{n, p})
	}
	bumpy := cases.Within(cases.Unit(numbers(-1, 1)), 4, 20)
	return append(all, given{cases.Bumps(1.5, numbers(-0.25, 0.75)), bumpy}, given{cases.Kinks(-0.5, 0.5), cases.Within(cases.Unit(numbers(1, 0.125)), 4, 20)}, given{cases.Kinks(-0.5, 0.5), cases.Within(cases.Unit(numbers(1, 0.125)), 4, 6)})
}

// roomy is one with more behind the end of each of its lists.
func (g given) roomy() given { return given{samples.RoomyNetOf(g.n), samples.RoomyPropOf(g.p)} }

// whole is a copy in which the room behind each list counts as a part of it.
func (g given) whole() given { return given{samples.WholeNet(g.n), samples.WholeProp(g.p)} }

func (g given) same(h given) bool { return samples.SameNet(g.n, h.n) && samples.SameProp(g.p, h.p) }

// scribble writes all over its lists of numbers, behind their ends too.
func (g given) scribble() {
	all, pairs := samples.Lists(g.n)
	for _, l := range slices.Concat(all, g.p.G, g.p.Claims, lists(g.p.C)) {
		samples.Scribble(l, -5)
	}
	for _, l := range pairs {
		samples.Scribble(l, -6i)
	}
}

// 19.3, 19.6, 19.8, rule 3: what is handed in stays, with the room behind it, which tells nothing; answers are new memory, and nothing is kept.
func TestWhatIsHandedInStays(t *testing.T) {
	falsified := 0
	for _, ordinary := range memoryCases() {
		g := ordinary.roomy()
		before := g.whole()
		for _, workers := range []int{1, 4} {
			v, e := Judge(g.n, g.p, workers)
			i, w, f := Radius(g.n, g.p, 2, workers)
			wantV, wantW := v, w
			wantV.E, wantW.E = slices.Clone(v.E), slices.Clone(w.E)
			samples.Scribble(v.E, 66)
			samples.Scribble(w.E, 67)
			if !g.whole().same(before) {
				t.Fatalf("%s: what was given is changed, or a part of an answer", text(ordinary))
			}
			if again, h := Judge(ordinary.n, ordinary.p, workers); h != e || !sameVerdict(again, wantV) {
				t.Errorf("%s: %+v, not %+v: an answer was kept, or the room behind a list tells something", text(ordinary), again, wantV)
			}
			if j, again, h := Radius(ordinary.n, ordinary.p, 2, workers); h != f || i != j || !sameVerdict(again, wantW) {
				t.Errorf("%s: %+v, not %+v: an answer was kept, or the room behind a list tells something", text(ordinary), again, wantW)
			}
			falsified += len(v.E)
		}
		want, e := Judge(ordinary.n, ordinary.p, 2)
		g.scribble()
		if again, f := Judge(ordinary.n, ordinary.p, 2); f != e || !sameVerdict(again, want) {
			t.Errorf("%s: what was given is kept", text(ordinary))
		}
	}
	if falsified < 8 {
		t.Errorf("%d ends only", falsified)
	}
}

// 19.4, 19.5, rule 3: so do bytes.
func TestBytesStay(t *testing.T) {
	for _, g := range memoryCases() {
		if g.p.K > api.MaxK {
			continue
		}
		net, prop := encoded(t, g.n, g.p)
		for _, spoil := range []int{-1, 0, len(prop) - 1} {
			a, b := samples.Roomy(net, 7), samples.Roomy(prop, 8)
			if spoil >= 0 {
				b[spoil] ^= 1
			}
			x, y := slices.Clone(samples.Whole(a)), slices.Clone(samples.Whole(b))
			v := Verify(a, b)
			w, e := Side(nil, 2, a, b)
			if e != api.OK || !sameVerdict(v, w) {
				t.Errorf("%s: %+v, and %+v %v", text(g), v, w, e)
			}
			want := w
			want.E = slices.Clone(w.E)
			samples.Scribble(v.E, 66)
			samples.Scribble(w.E, 67)
			if !slices.Equal(samples.Whole(a), x) || !slices.Equal(samples.Whole(b), y) {
				t.Fatalf("%s: the bytes are changed", text(g))
			}
			if again := Verify(a, b); !sameVerdict(again, want) {
				t.Errorf("%s: %+v, not %+v: an answer was kept", text(g), again, want)
			}
			samples.Scribble(a, 9)
			samples.Scribble(b, 9)
			if spoil < 0 {
				expectBytes(t, net, prop, want)
			}
		}
	}
}

// Rule 3: the ends of two answers share no memory, the room behind them neither.
func TestEndsAreNew(t *testing.T) {
	n, p := cases.Bumps(1.5, numbers(-0.25, 0.75)), cases.Within(cases.Unit(numbers(-1, 1)), 4, 20)
	net, prop := encoded(t, n, p)
	var all [][]int
	for range 3 {
		a, _ := Judge(n, p, 2)
		b, _ := Side(nil, 3, net, prop)
		all = append(all, a.E, b.E, Verify(net, prop).E)
	}
	if samples.Sharing(all, func(i int) int { return i + 1 }) >= 0 || len(all[0]) != 1 {
		t.Errorf("%v", all)
	}
}

// 19.8, rule 6: calls side by side, of the same network and question, disturb nothing.
func TestCallsSideBySide(t *testing.T) {
	n, p := cases.Bumps(1.5, numbers(-0.25, 0.75)), cases.Within(cases.Unit(numbers(-1, 1)), 4, 20)
	want, _ := Judge(n, p, 1)
	net, prop := encoded(t, n, p)
	var busy sync.WaitGroup
	for i := range 16 {
		busy.Go(func() {
			expectJudge(t, n, p, 1+i, want)
			expectSide(t, nil, 1+i, net, prop, want)
		})
	}
	busy.Wait()
}

// Rule 1: nil and empty lists mean the same.
func TestEmptyListsAreAsNil(t *testing.T) {
	n := api.Net{In: samples.Line(1), Layers: []api.Layer{}, Names: []string{}}
	p := cases.Asked(lists(numbers(1, 0)), numbers(-1))
	expectVerdict(t, n, p, falsifiedAt(0, 1, 1))
	p.G = [][]float64{}
	expectVerdict(t, n, p, falsifiedAt(0, 1, 1))
	expectRadius(t, n, p, 1, -1, falsifiedAt(0, 1, 1))
	n, p = netOf(2), cases.Asked(nil, numbers(1, 2))
	p.Target = 1
	expectVerdict(t, n, p, robust(1, 1))
	p.Claims = [][]float64{}
	expectVerdict(t, n, p, robust(1, 1))
	p.Target = -1
	expectRefused(t, n, p, 0, 1, api.ErrTarget)
	expectBytes(t, []byte{}, nil, malformedBytes(api.ErrMagic, 1, 0))
}
