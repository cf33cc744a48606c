package point

import (
	"bytes"
	"slices"
	"testing"

	"ambit/api"
	"ambit/samples"
)

// roomy is an exact number with more behind the end of its bytes.
func roomy(x api.Dyad) api.Dyad {
	x.M = samples.Roomy(x.M, 9)
	return x
}

// roomyAll is a list of such, with more behind its end.
func roomyAll(l []api.Dyad) []api.Dyad {
	var all []api.Dyad
	for _, x := range l {
		all = append(all, roomy(x))
	}
	return samples.Roomy(all, dyad(77, 7))
}

// wholeDyads is a copy of a list in which the room behind it, and behind each number's bytes, counts as a part of it.
func wholeDyads(l []api.Dyad) []api.Dyad {
	all := slices.Clone(samples.Whole(l))
	for i, x := range all {
		all[i].M = slices.Clone(samples.Whole(x.M))
	}
	return all
}

// scribble writes all over a list of exact numbers, behind all ends too.
func scribble(l []api.Dyad) {
	for _, x := range samples.Whole(l) {
		samples.Scribble(x.M, 0xa6)
	}
	samples.Scribble(l, api.Dyad{Neg: true, E: 6})
}

// expectNew calls twice, with all that the first call told written over in between: both must tell the same, and what was handed in (seen by look) must stay; nor does the second answer change when what was handed in is written over.
func expectNew(t *testing.T, name string, call func() []api.Dyad, look func() [][]api.Dyad, spoil func()) {
	t.Helper()
	sameLists := func(a, b [][]api.Dyad) bool { return slices.EqualFunc(a, b, sameAll) }
	before := look()
	got := call()
	want := wholeDyads(got)
	scribble(got)
	if !sameLists(look(), before) {
		t.Errorf("%s: what was given is changed, or a part of the answer", name)
	}
	again := call()
	spoil()
	if !sameAll(wholeDyads(again), want) {
		t.Errorf("%s: what was given is kept, or an answer was", name)
	}
}

// 14.10: calls on exact numbers: x and y stay, and answers are new memory, also where the answer is one of the two.
func TestNumbersStay(t *testing.T) {
	one := func(x api.Dyad, e api.Errno) []api.Dyad {
		if e != api.OK {
			t.Fatalf("refused: %v", e)
		}
		return []api.Dyad{x}
	}
	for _, pair := range [][2]api.Dyad{{dyad(0x12345, 3), dyad(-0x777, -5)}, {dyad(0x12345, 3), {}}, {{}, dyad(-0x777, -5)}, {dyad(1, 0), dyad(0x12345, 3)}, {dyad(0x12345, 3), dyad(1, 0)}, {ones(65000), dyad(1, 4)}} {
		for name, call := range map[string]func(x, y api.Dyad) []api.Dyad{
			"Add":   func(x, y api.Dyad) []api.Dyad { return one(Add(x, y)) },
			"Sub":   func(x, y api.Dyad) []api.Dyad { return one(Sub(x, y)) },
			"Mul":   func(x, y api.Dyad) []api.Dyad { return one(Mul(x, y)) },
			"Shift": func(x, y api.Dyad) []api.Dyad { return one(Shift(x, 0)) },
			"Make":  func(x, y api.Dyad) []api.Dyad { return one(Make(true, x.M, 0)) },
			"Cmp":   func(x, y api.Dyad) []api.Dyad { Cmp(x, y); return nil },
			"Check": func(x, y api.Dyad) []api.Dyad { Check(x); return nil },
			"Round": func(x, y api.Dyad) []api.Dyad { Round(api.Near, x); return nil },
			"Of":    func(x, y api.Dyad) []api.Dyad { o, _ := Of(0x12345p3); return []api.Dyad{o} },
		} {
			given := roomyAll(pair[:])
			expectNew(t, name,
				func() []api.Dyad { return call(given[0], given[1]) },
				func() [][]api.Dyad { return [][]api.Dyad{wholeDyads(given)} },
				func() { scribble(given) })
		}
	}
}

// 14.10: a Make takes noughts away without writing into the bytes.
func TestBytesStay(t *testing.T) {
	for _, m := range [][]byte{{0, 0, 3, 4, 0, 0}, {0, 8}, {7}, {0, 0}, {}} {
		given := samples.Roomy(m, 9)
		before := slices.Clone(samples.Whole(given))
		got, _ := Make(false, given, 0)
		samples.Scribble(got.M, 0xa6)
		if !bytes.Equal(samples.Whole(given), before) {
			t.Errorf("%v is now %v", before, samples.Whole(given))
		}
	}
}

// 14.10: a question and its e stay.
func TestQuestionsStay(t *testing.T) {
	p, e := samples.RoomyProp(), samples.Roomy([]int{1, -2, 0, 4, 3}, 99)
	before, parts := samples.WholeProp(p), slices.Clone(samples.Whole(e))
	tell := func() []api.Dyad {
		x, f := Input(p, e, 2)
		if f != api.OK || len(x) != 3 {
			t.Fatalf("%s %v", text(x), f)
		}
		return x
	}
	expectNew(t, "Input", tell,
		func() [][]api.Dyad {
			if !samples.SameProp(samples.WholeProp(p), before) || !slices.Equal(samples.Whole(e), parts) {
				t.Error("the question or e is changed")
			}
			return nil
		},
		func() {
			samples.Scribble(p.C, 5)
			samples.Scribble(e, 1)
			for _, g := range p.G {
				samples.Scribble(g, 6)
			}
		})
}

// plain is the sample with a layer of each kind, without those that Eval takes not.
func plain() api.Net {
	n := samples.RoomyNet()
	for i, l := range n.Layers {
		if l.Kind == api.KTanh || l.Kind == api.KSigmoid {
			n.Layers[i] = samples.Leaky(0.5)
		}
	}
	return n
}

// 14.10: a network and a point stay: with a layer of each kind, and without layers.
func TestNetworksStay(t *testing.T) {
	for _, n := range []api.Net{plain(), {In: samples.Shape(2, 3, 4), Layers: samples.Roomy([]api.Layer(nil), samples.Relu())}, netOf(samples.Shape(2, 3, 4), samples.Windowed(api.KMax, 1, 1, 1, 1, 0, 0)), netOf(samples.Shape(2, 3, 4), samples.Relu())} {
		x := roomyAll(exacts(samples.Counted(24)...))
		before := samples.WholeNet(n)
		tell := func() []api.Dyad {
			y, e, _ := Eval(n, x)
			if e != api.OK {
				t.Fatal(e)
			}
			return y
		}
		expectNew(t, "Eval", tell,
			func() [][]api.Dyad {
				if !samples.SameNet(samples.WholeNet(n), before) {
					t.Error("the network is changed")
				}
				return [][]api.Dyad{wholeDyads(x)}
			},
			func() {
				scribble(x)
				for _, l := range n.Layers {
					samples.Scribble(l.W, 5)
					samples.Scribble(l.B, 6)
				}
			})
	}
}

// 14.10: a claim and its outputs stay.
func TestClaimsStay(t *testing.T) {
	a, y := samples.Roomy(numbers(1, -2, 0.5), 9), roomyAll(wholes(300, 7))
	before := slices.Clone(samples.Whole(a))
	expectNew(t, "Claim",
		func() []api.Dyad {
			s, e := Claim(a, y)
			if e != api.OK {
				t.Fatal(e)
			}
			return []api.Dyad{s}
		},
		func() [][]api.Dyad {
			if !samples.SameNumbers(samples.Whole(a), before) {
				t.Error("the claim is changed")
			}
			return [][]api.Dyad{wholeDyads(y)}
		},
		func() { scribble(y); samples.Scribble(a, 4) })
}

// expectApart holds the lists of one answer to sharing nothing.
func expectApart(t *testing.T, name string, y []api.Dyad) {
	t.Helper()
	var all [][]byte
	for i, x := range y {
		if len(x.M) == 0 {
			t.Errorf("%s: the number %d of %d has no memory", name, i, len(y))
		}
		all = append(all, x.M)
	}
	if i := samples.Sharing(all, func(i int) byte { return byte(i) }); i >= 0 {
		t.Errorf("%s: the number %d of %d shares memory", name, i, len(y))
	}
}

// 14.10: no two lists of one answer share any memory, even if they are of one value, or those that were handed in do.
func TestListsShareNothing(t *testing.T) {
	x := dyad(0x12345, 2)
	shared := slices.Repeat([]api.Dyad{x}, 4)
	in := samples.Line(4)
	for _, layers := range [][]api.Layer{
		nil, {samples.Relu()}, {samples.Leaky(0.5)}, {samples.Add(0)}, {kind(api.KSquare)},
		{samples.Windowed(api.KMax, 1, 3, 1, 1, 0, 2)},
		{{Kind: api.KDense, Out: 3, W: samples.Ones(12), B: samples.Ones(3)}},
		{{Kind: api.KScale, W: numbers(1), B: numbers(0)}},
		{{Kind: api.KDense, Out: 1, W: samples.Ones(4), B: numbers(1)}, {Kind: api.KMax, KH: 2, KW: 2, SH: 1, SW: 1, PH: 1, PW: 1}},
	} {
		y, e, _ := Eval(netOf(in, layers...), shared)
		if e != api.OK || len(y) < 3 {
			t.Fatalf("%s %v", text(y), e)
		}
		expectApart(t, text(layers), y)
	}
	g := numbers(1, 1, 1)
	y, e := Input(asked(g, g, g), []int{1, 3}, 2)
	if e != api.OK {
		t.Fatal(e)
	}
	expectApart(t, "Input", y)
	if !same(x, dyad(0x12345, 2)) || !samples.SameNumbers(g, samples.Ones(3)) {
		t.Error("what was handed in is changed")
	}
}

// 14.10, rule 1: room behind lists tells nothing, and empty lists are as nil.
func TestRoomTurnsNothing(t *testing.T) {
	x := exacts(samples.Counted(24)...)
	y, e, _ := Eval(plain(), x)
	if e != api.OK {
		t.Fatal(e)
	}
	expectEval(t, plain(), roomyAll(x), y)
	empty := api.Dyad{M: []byte{}}
	room := api.Dyad{M: make([]byte, 0, 8)}
	for _, zero := range dyads(empty, room) {
		for _, o := range operations() {
			o.expect(t, zero, zero, api.Dyad{}, api.OK)
		}
		operations()[0].expect(t, dyad(3, 1), zero, dyad(3, 1), api.OK)
		expectShift(t, zero, 9, api.Dyad{}, api.OK)
		expectRound(t, api.Up, zero, 0, true)
		expectClaim(t, numbers(1, 2), dyads(zero), dyad(1, 1), api.OK)
	}
}
