package margin

import (
	"slices"
	"testing"

	"ambit/api"
	"ambit/model"
	"ambit/oracle"
	"ambit/samples"
	"ambit/zono"
)

// anyClaim is a claim of n coordinates, or something that is none.
func anyClaim(m *oracle.Mixer, n int) []float64 {
	a := samples.MixedNumbers(m, max(min(n, 300), 0)+1)
	switch m.Below(6) {
	case 0:
		a[m.Below(len(a))] = api.Float(m.Word())
	case 1:
		return samples.MixedNumbers(m, m.Below(6))
	}
	return a
}

// isClaim tells whether a may be a claim over z.
func isClaim(z api.Zono, a []float64) bool {
	if zono.Check(z) != api.OK || z.Bad || len(a) != z.N+1 {
		return false
	}
	return !slices.ContainsFunc(a, func(v float64) bool { return !isNumber(v) })
}

// 17.2 to 17.4, 17.11: whatever is handed in, a call ends, and answers what may be answered, twice the same.
func TestAnyZonotopes(t *testing.T) {
	t.Parallel()
	var m oracle.Mixer
	seen := oracle.Tally{}
	for range 8000 {
		z := samples.AnyZono(&m)
		a := anyClaim(&m, z.N)
		is := isClaim(z, a)
		v, ok := Margin(z, a)
		if w, again := Margin(z, a); !oracle.Same(v, w) || ok != again || ok && !is || !ok && !oracle.Same(v, 0) {
			t.Fatalf("Margin(%s, %v): %v %v, and %v %v", text(z), a, v, ok, w, again)
		}
		if is {
			want := oracle.Roundings(wantMargin(z, a))
			if ok != want.Is[api.Down] || !oracle.Same(v, want.Number[api.Down]) {
				t.Fatalf("Margin(%s, %v): %v %v", text(z), a, v, ok)
			}
		}
		claims := lists(a, anyClaim(&m, z.N))[:m.Below(3)]
		at, least, told := Worst(z, claims)
		if told && (at >= len(claims) || !isClaim(z, claims[at]) || len(claims) == 0) || !told && (at != 0 || !oracle.Same(least, 0)) {
			t.Fatalf("Worst(%s, %s): %d %v %v", text(z), text(claims), at, least, told)
		}
		k := samples.AnyWhole(&m)
		got := Signs(z, a, k)
		if bounded := k >= 0 && k <= 256; bounded && len(got) != k || !bounded && len(got) > 0 || !slices.Equal(got, Signs(z, a, k)) {
			t.Fatalf("Signs(%s, %v, %d): %v", text(z), a, k, got)
		}
		for _, sign := range got {
			if sign < -1 || sign > 1 || sign != 0 && !is {
				t.Fatalf("Signs(%s, %v, %d): %v", text(z), a, k, got)
			}
		}
		seen.Note("a margin", ok)
		seen.Note("none of a claim", is && !ok)
		seen.Note("no claim", !is)
		seen.Note("a worst", told)
		seen.Note("signs", slices.ContainsFunc(got, func(sign int) bool { return sign != 0 }))
	}
	seen.Expect(t, 50, "a margin", "none of a claim", "no claim", "a worst", "signs")
}

// anyCall is one with anything in it, though it is often one that may be.
func anyCall(m *oracle.Mixer) call {
	c := someCall(m, samples.EveryKind(), 0)
	switch m.Below(5) {
	case 0:
		c.n = samples.AnyNet(m)
		if e, _ := model.Check(c.n); e == api.OK {
			c.p = samples.MixedPropTo(m, c.n)
		}
	case 1:
		c.p = samples.AnyProp(m)
	case 2:
		*[]*int{&c.p.Target, &c.p.K, &c.p.Depth, &c.p.Looks}[m.Below(4)] = samples.AnyWhole(m)
	}
	c.r, c.signs = samples.AnyRegion(m, len(c.p.G)), someSigns(m, len(c.p.G))
	switch m.Below(6) {
	case 0:
		c.signs = someSigns(m, m.Below(5))
	case 1:
		if len(c.signs) > 0 {
			c.signs[m.Below(len(c.signs))] = samples.AnyWhole(m)
		}
	}
	return c
}

// mayAsk tells whether a network and a question to it may be.
func (c call) mayAsk() bool {
	if e, _ := model.Check(c.n); e != api.OK {
		return false
	}
	in, out := samples.Widths(c.n)
	e, _ := model.CheckProp(c.p, in, out)
	return e == api.OK
}

// mayTry tells whether a call's region and signs may be, too.
func (c call) mayTry() bool {
	k := len(c.p.G)
	if !c.mayAsk() || len(c.r.Level) != k || len(c.r.At) != k || len(c.signs) != k {
		return false
	}
	for s, level := range c.r.Level {
		if level < 0 || level > 8 || c.r.At[s] < 0 || c.r.At[s] > 1<<level-1 || c.signs[s] < -1 || c.signs[s] > 1 {
			return false
		}
	}
	return true
}

// 17.5, 17.9, 17.11: whatever is handed in, a call ends, and answers what may be answered, twice the same.
func TestAnyCalls(t *testing.T) {
	t.Parallel()
	var m oracle.Mixer
	seen := oracle.Tally{}
	for range 3000 {
		c := anyCall(&m)
		if c.mayTry() {
			claim, _ := c.expectTwin(t)
			seen.Note("a trial tells", claim >= 0)
			seen.Note("a trial tells nothing", claim < 0)
		} else {
			c.expectNone(t)
			seen.Note("no trial", true)
		}
		got, ok := Idle(c.n, c.p)
		again, is := Idle(c.n, c.p)
		if ok != is || !oracle.SameDyad(got, again) || ok && !c.mayAsk() || !ok && !oracle.SameDyad(got, api.Dyad{}) {
			t.Fatalf("Idle(%s): %s %v and %s %v", text(c), text(got), ok, text(again), is)
		}
		seen.Note("Idle tells", ok)
		seen.Note("Idle tells nothing", !ok)
		if t.Failed() {
			return
		}
	}
	seen.Expect(t, 50, "a trial tells", "a trial tells nothing", "no trial", "Idle tells", "Idle tells nothing")
}
