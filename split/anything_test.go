package split

import (
	"slices"
	"testing"

	"ambit/api"
	"ambit/oracle"
	"ambit/samples"
)

// anyRegion is a region, or one in which something or other is wrong.
func anyRegion(m *oracle.Mixer) api.Region { return samples.AnyRegion(m, m.Below(4)) }

func anyWholes(m *oracle.Mixer, n int) []int {
	l := make([]int, n)
	for i := range l {
		l[i] = samples.AnyWhole(m)
	}
	return l
}

// 18.1 to 18.4, 18.9: whatever is handed in, a call ends, and answers what may be answered.
func TestAnyRegions(t *testing.T) {
	t.Parallel()
	var m oracle.Mixer
	seen := oracle.Tally{}
	for range 20000 {
		r, k, s := anyRegion(&m), samples.AnyWhole(&m), samples.AnyWhole(&m)
		is := isRegion(r, len(r.Level))
		if k < 0 || k > 256 {
			expectNoWhole(t, k)
		} else {
			expectWhole(t, k, samples.Cube(k))
		}
		if isRegion(r, k) {
			expectCheck(t, r, k, api.OK)
		} else {
			expectCheck(t, r, k, api.ErrRegion)
		}
		switch {
		case !is:
			expectNoWay(t, r)
			expectNoHalves(t, r, s, api.ErrRegion)
		case s < 0 || s >= len(r.Level) || r.Level[s] == 8:
			expectNoHalves(t, r, s, api.ErrArg)
		default:
			_, _, e := Halve(r, s)
			seen.Note("halved", e == api.OK)
		}
		seen.Note("a region", is)
		seen.Note("none", !is)
		if t.Failed() {
			return
		}
	}
	seen.Expect(t, 500, "a region", "none", "halved")
}

// wantEnds is what Ends tells beside its list, by the words of the chapter.
func wantEnds(r api.Region, signs []int, depth int) api.Errno {
	switch {
	case !isRegion(r, len(r.Level)):
		return api.ErrRegion
	case len(signs) != len(r.Level):
		return api.ErrCount
	case depth < 0 || depth > 8:
		return api.ErrArg
	}
	for s, sign := range signs {
		if sign != -1 && sign != 0 && sign != 1 || depth < r.Level[s] {
			return api.ErrArg
		}
	}
	return api.OK
}

// 18.5, 18.7, 18.9: likewise of points.
func TestAnyPoints(t *testing.T) {
	t.Parallel()
	var m oracle.Mixer
	seen := oracle.Tally{}
	for range 20000 {
		r := anyRegion(&m)
		k := len(r.Level)
		signs, depth := someSigns(&m, k), []int{8, m.Below(9), samples.AnyWhole(&m)}[m.Below(3)]
		if m.Below(3) == 0 {
			signs = anyWholes(&m, []int{k, m.Below(4)}[m.Below(2)])
		}
		want := wantEnds(r, signs, depth)
		got, e := Ends(r, signs, depth)
		again, f := Ends(r, signs, depth)
		if e != want || e != f || !slices.Equal(got, again) || e == api.OK && (len(got) != k || !Within(r, got, depth)) || e != api.OK && len(got) > 0 {
			t.Fatalf("Ends(%s, %v, %d): %v %v, not %v", text(r), signs, depth, got, e, want)
		}
		seen.Note("ends", e == api.OK)
		seen.Note("ErrRegion", e == api.ErrRegion)
		seen.Note("ErrCount", e == api.ErrCount)
		seen.Note("ErrArg", e == api.ErrArg)
		x := anyWholes(&m, []int{k, k, m.Below(4)}[m.Below(3)])
		depth = []int{samples.AnyWhole(&m), m.Below(63)}[m.Below(2)]
		in := isRegion(r, k) && len(x) == k && depth >= 0 && depth <= 62 && holds(r, point(x, depth))
		expectWithin(t, r, x, depth, in)
		seen.Note("within", in)
		seen.Note("not within", !in)
		if t.Failed() {
			return
		}
	}
	seen.Expect(t, 300, "ends", "ErrRegion", "ErrCount", "ErrArg", "within", "not within")
}

// anyClaim is a claim of n coordinates, or something that is none.
func anyClaim(m *oracle.Mixer, n int) []float64 {
	a := samples.MixedNumbers(m, max(min(n, 300), 0)+1)
	switch m.Below(6) {
	case 0:
		a[m.Below(len(a))] = oracle.NoNumbers()[m.Below(6)]
	case 1:
		return samples.MixedNumbers(m, m.Below(6))
	}
	return a
}

// 18.6, 18.9: likewise of choices: a symbol of the region, or -1.
func TestAnyChoices(t *testing.T) {
	t.Parallel()
	var m oracle.Mixer
	seen := oracle.Tally{}
	for range 20000 {
		z, k := samples.AnyZono(&m), m.Below(5)
		a := anyClaim(&m, z.N)
		p := samples.AnyProp(&m)
		p.G = nil
		for range k {
			p.G = append(p.G, samples.MixedNumbers(&m, m.Below(4)))
		}
		if k > 0 && m.Below(4) == 0 {
			p.G[m.Below(k)] = oracle.NoNumbers()[:1+m.Below(3)]
		}
		r := samples.AnyRegion(&m, k)
		want := wantChoice(z, a, p, r)
		expectChoice(t, z, a, p, r, want.symbol)
		if t.Failed() {
			return
		}
		seen.Note("by the claim", want.by == "claim")
		seen.Note("by length", want.by == "length")
		seen.Note("no number", want.by == "no number")
		seen.Note("no region", !isRegion(r, k))
	}
	seen.Expect(t, 300, "by the claim", "by length", "no number", "no region")
}
