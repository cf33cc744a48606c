package verify

import (
	"testing"

	"ambit/api"
	"ambit/cases"
	"ambit/margin"
	"ambit/samples"
)

// line is a question to one coordinate, from -1 to 1, with these claims, that lets nothing be halved.
func line(claims ...[]float64) api.Prop {
	return cases.Within(cases.Asked(claims, numbers(0), numbers(1)), 0, 1)
}

// 19.1, 19.3: a region is settled where the least margin of all claims is above 0, with that margin.
func TestSettledAtOnce(t *testing.T) {
	n := netOf(1)
	expectVerdict(t, n, line(numbers(1, 3)), robust(2, 1))
	expectVerdict(t, n, line(numbers(1, 3), numbers(-1, 1.5), numbers(0, 7)), robust(0.5, 1))
	// At the least number above 0, and at what is not above it.
	expectVerdict(t, n, line(numbers(least, 2*least)), robust(least, 1))
	expectVerdict(t, n, line(numbers(1, 1)), unknown(1, -1, 1))
	expectVerdict(t, n, line(numbers(1, 3), numbers(0, 0)), unknown(1, -1, 1))
	// A margin is rounded down.
	expectVerdict(t, n, line(numbers(1, 3), numbers(1, 1+0x1p-52), numbers(0x1p-60, 1)), robust(0x1p-52, 1))
	expectVerdict(t, n, line(numbers(0x1p-60, 1)), robust(1-0x1p-53, 1))
	// There may be no symbol at all.
	expectVerdict(t, n, cases.Asked(lists(numbers(1, 0)), numbers(0.25)), robust(0.25, 1))
}

// 19.1: a target's claims stand ahead of the further ones.
func TestSettledWithATarget(t *testing.T) {
	n := netOf(3)
	p := cases.Asked(lists(numbers(1, 0, 0, 0)), numbers(1, 8, 2), numbers(0.5, 0, 0))
	p.Target = 1
	expectVerdict(t, n, p, robust(0.5, 1))
	p.Claims = nil
	expectVerdict(t, n, p, robust(6, 1))
	p.C[2] = 9
	expectVerdict(t, n, p, falsifiedAt(1, 1, 1, 0))
	p.C[0] = 7.75
	expectVerdict(t, n, p, falsifiedAt(1, 1, 1, 0))
	p.C[2] = 7
	expectVerdict(t, n, p, falsifiedAt(0, 0.25, 1, 256))
}

// 19.1: the point at the signs is asked ahead of the middle.
func TestRefutedAtTheSigns(t *testing.T) {
	n := netOf(1)
	for depth := range api.MaxDepth + 1 {
		p := cases.Within(line(numbers(1, -2)), depth, 1)
		expectVerdict(t, n, p, falsifiedAt(0, 3, 1, -1<<depth))
		p.Claims = lists(numbers(-1, 0.5))
		expectVerdict(t, n, p, falsifiedAt(0, 0.5, 1, 1<<depth))
	}
	// A symbol each, and one that turns nothing.
	p := cases.Asked(lists(numbers(2, -3, 0, 4)), numbers(0, 0, 0), numbers(1, 0, 5), numbers(0, 0, 7), numbers(3, 2, 0), numbers(0, 1, 0))
	expectVerdict(t, netOf(3), cases.Within(p, 2, 1), falsifiedAt(0, 1, 1, -4, 0, 0, 4))
}

// dip is a network of one coordinate that tells twice the input where it is above 0, and else its size; the signs of a claim on it are not where it is least.
func dip() api.Net {
	return netOf(1, dense(numbers(1, -1), numbers(0, 0)), samples.Relu(), dense(numbers(2, 1), numbers(0)))
}

// 19.1: where the point at the signs tells nothing, the middle is asked.
func TestRefutedAtTheMiddleAlone(t *testing.T) {
	p := line(numbers(1, -0.5))
	expectVerdict(t, dip(), p, falsifiedAt(0, 0.5, 1, 0))
	p.Claims = lists(numbers(1, 0))
	expectVerdict(t, dip(), p, unknown(1, -1, 1))
	// The signs are -1: a claim that fails there is told, though the middle would tell more.
	p.Claims = lists(numbers(1, -1.25))
	expectVerdict(t, dip(), p, falsifiedAt(0, 0.25, 1, -1))
}

// 19.1: the signs are those of the worst claim, wherever it stands; of those that fail there the first is told.
func TestSignsOfTheWorstClaim(t *testing.T) {
	n := netOf(1)
	safe, worst := numbers(1, 10), numbers(-1, 0.5)
	expectVerdict(t, n, line(safe, worst), falsifiedAt(1, 0.5, 1, 1))
	expectVerdict(t, n, line(worst, safe), falsifiedAt(0, 0.5, 1, 1))
	expectVerdict(t, n, line(safe, numbers(-1, 0.75), worst, safe), falsifiedAt(1, 0.25, 1, 1))
	// Of two that are as bad the first gives the signs.
	other := numbers(1, 0.5)
	expectVerdict(t, n, line(worst, other), falsifiedAt(0, 0.5, 1, 1))
	expectVerdict(t, n, line(other, worst), falsifiedAt(0, 0.5, 1, -1))
}

// 19.1: where Worst tells nothing of a zonotope that is not bad, the first claim gives the signs.
func TestNoWorstOfAZonotope(t *testing.T) {
	n := netOf(1)
	// The second claim goes to twice the greatest number and back: it has no margin.
	wild, tame := numbers(most, 0), numbers(-1, 3)
	p := cases.Within(cases.Asked(lists(tame, wild), numbers(0), numbers(1), numbers(1)), 0, 1)
	expectVerdict(t, n, p, unknown(1, -1, 1))
	p.Claims = lists(wild, tame)
	expectVerdict(t, n, p, falsifiedAt(0, most, 1, -1, -1))
	// The first claim's signs are asked though its own margin is above 0.
	p.Claims = lists(numbers(1, 3), wild)
	expectVerdict(t, n, p, falsifiedAt(1, most, 1, -1, -1))
}

// 19.1: nothing bad settles anything, and there the middle alone is asked.
func TestBadRegions(t *testing.T) {
	n := netOf(1, scale(4, 0))
	far := cases.Within(cases.Asked(lists(numbers(1, 1)), numbers(0), numbers(0x1p1023)), 0, 1)
	expectVerdict(t, n, far, unknown(1, 1, 1))
	far.Claims = lists(numbers(1, -1))
	expectVerdict(t, n, far, falsifiedAt(0, 1, 1, 0))
	// Half of it is bad as well; its middle is at -2^1024 and 1.
	far.Claims = lists(numbers(1, 1))
	expectVerdict(t, n, cases.Within(far, 1, 3), falsifiedAt(0, most, 3, -1))
	expectVerdict(t, n, cases.Within(far, 3, 3), falsifiedAt(0, most, 3, -4))
	// A claim that hangs on nothing is not settled either.
	far.Claims = lists(numbers(0, 1))
	expectVerdict(t, n, far, unknown(1, 1, 1))
}

// 19.1: where the network is not exact at points, spans refute.
func TestRefutedBySpans(t *testing.T) {
	n := netOf(1, kind(api.KTanh))
	p := line(numbers(1, 0.5))
	_, gap, ok := margin.Trial(n, p, region(0, 0), wholes(-1))
	if !ok || gap < 0.26 || gap > 0.262 {
		t.Fatalf("%v %v", gap, ok)
	}
	expectVerdict(t, n, p, falsifiedAt(0, gap, 1, -1))
	p.Claims = lists(numbers(1, -least))
	_, gap, ok = margin.Trial(n, p, region(0, 0), wholes(-1))
	if !ok {
		t.Fatal(gap)
	}
	expectVerdict(t, n, p, falsifiedAt(0, gap, 1, -1))
}

// 19.1: a closed done is asked ahead of a look.
func TestStoppedLooks(t *testing.T) {
	n, p := cases.Example(true)
	s := newSearch(n, p, 2, closed())
	if f := s.look(region(0, 0), 1); f.outcome != stopped {
		t.Errorf("%+v", f)
	}
	if v, e := s.run(); e != api.ErrStopped || !sameVerdict(v, api.Verdict{}) {
		t.Errorf("%+v %v", v, e)
	}
}
