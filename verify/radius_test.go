package verify

import (
	"fmt"
	"math/big"
	"testing"

	"ambit/api"
	"ambit/cases"
	"ambit/oracle"
	"ambit/samples"
)

// 19.6: robust with all of the columns.
func TestRadiusOfAll(t *testing.T) {
	n, p := cases.Example(false)
	for bits := range api.MaxRadius + 1 {
		expectRadius(t, n, p, bits, 1<<bits, robust(0.5, 1))
	}
	// Where there are no columns, all of them are nothing.
	expectRadius(t, netOf(1), cases.Asked(lists(numbers(1, 0)), numbers(3)), 20, 1<<20, robust(3, 1))
}

// 19.6: not robust with none of the columns: the verdict at 0 is told, not that at all of them.
func TestRadiusOfNone(t *testing.T) {
	n := netOf(1)
	for _, bits := range []int{0, 1, 2, 20} {
		// At all of it the gap is 3, at 0 it is 2; the column is still a symbol.
		expectRadius(t, n, cases.Within(cases.Unit(numbers(1, -2)), 3, 9), bits, -1, falsifiedAt(0, 2, 1, 0))
		// At all of it there are halves that stay open; at 0 there is nothing to be halved.
		expectRadius(t, n, cases.Within(cases.Unit(numbers(0, 0)), 3, 9), bits, -1, unknown(1, -1, 1))
		expectRadius(t, n, cases.Asked(lists(numbers(1, 0)), numbers(0)), bits, -1, unknown(1, -1, 1))
	}
}

// 19.6: between, the radius is the greatest part that is robust, and the next one is not.
func TestRadiusBetween(t *testing.T) {
	n := netOf(1)
	for bits := range api.MaxRadius + 1 {
		whole := 1 << bits
		for _, at := range []int{0, 1, whole / 3, whole/2 - 1, whole / 2, whole/2 + 1, whole - 2, whole - 1} {
			if at < 0 || at >= whole {
				continue
			}
			// The claim's least sum is above 0 till half a part behind that one.
			room := (float64(at) + 0.5) / float64(whole)
			p := cases.Within(cases.Unit(numbers(1, room)), 0, 1)
			expectRadius(t, n, p, bits, at, robust(room-float64(at)/float64(whole), 1))
			// A least sum of just 0 is not robust.
			if at > 0 {
				p.Claims = lists(numbers(1, float64(at)/float64(whole)))
				expectRadius(t, n, p, bits, at-1, robust(1/float64(whole), 1))
			}
		}
	}
}

// 19.6: the question at each part has the same budgets, claims and centre: regions are halved there, too.
func TestRadiusWithHalves(t *testing.T) {
	// With all of the columns the quarters are settled, with half of them the whole is.
	n := cases.Kinks(-0.5, 0.5)
	p := cases.Unit(numbers(1, 0.125))
	expectRadius(t, n, p, 3, 8, robust(0.125, 7))
	expectRadius(t, n, cases.Within(p, 1, 1024), 1, 1, robust(0.125, 1))
	expectRadius(t, n, cases.Within(p, 8, 6), 1, 1, robust(0.125, 1))
	// A target, and another centre.
	n, p = netOf(2), cases.Asked(nil, numbers(1, 3), numbers(8, 0))
	p.Target = 1
	expectRadius(t, n, p, 3, 1, robust(1, 1))
}

// 19.6: it goes by halves, though what is robust may be so with more and not with less.
func TestRadiusGoesByHalves(t *testing.T) {
	for bits := range 6 {
		whole := 1 << bits
		for pattern := range 1 << min(whole+1, 12) {
			is := func(i int) bool { return pattern>>(i%12)&1 == 1 }
			var parts []int
			got, v := greatest(bits, func(part float64) api.Verdict {
				i := int(part * float64(whole))
				parts = append(parts, i)
				if is(i) {
					return robust(1, i+1)
				}
				return unknown(1, -1, i+1)
			})
			want, looked := wantRadius(whole, is)
			kind := api.Robust
			if want < 0 {
				kind = api.Unknown
			}
			if got != want || v.Kind != kind || v.Looked != max(want, 0)+1 || fmt.Sprint(parts) != fmt.Sprint(looked) {
				t.Fatalf("%d bits, %b: %d %+v by %v, not %d by %v", bits, pattern, got, v, parts, want, looked)
			}
		}
	}
}

// wantRadius is the radius by the words of 19.6, and where it was asked.
func wantRadius(whole int, is func(int) bool) (int, []int) {
	looked := []int{whole}
	if is(whole) {
		return whole, looked
	}
	looked = append(looked, 0)
	if !is(0) {
		return -1, looked
	}
	low := 0
	for step := whole / 2; step > 0; step /= 2 {
		looked = append(looked, low+step)
		if is(low + step) {
			low += step
		}
	}
	return low, looked
}

// 19.6: each number of a column is the one nearest to its part, and never -0; the centre and all else stay.
func TestPartsOfColumns(t *testing.T) {
	t.Parallel()
	var m oracle.Mixer
	seen := oracle.Tally{}
	for range 4000 {
		bits := m.Below(21)
		i := []int{0, 1, 1 << bits, m.Below(1<<bits + 1), m.Below(1<<bits + 1)}[m.Below(5)]
		p := api.Prop{C: samples.MixedNumbers(&m, 2), G: samples.MixedLists(&m, m.Below(4), 2), Target: 7, Claims: lists(numbers(5)), K: 3, Depth: 4, Looks: 5}
		got := shrunk(p, float64(i)/float64(int(1)<<bits))
		want := p
		want.G = nil
		for _, g := range p.G {
			var column []float64
			for _, a := range g {
				exact := new(big.Rat).Mul(oracle.Exact(a), big.NewRat(int64(i), 1<<bits))
				near := oracle.Roundings(exact).Number[api.Near]
				column = append(column, near)
				seen.Note("rounded", exact.Cmp(oracle.Exact(near)) != 0)
				seen.Note("rounded to 0", near == 0 && exact.Sign() < 0)
				seen.Note("-0", oracle.Same(a, oracle.MinusZero()) && i == 1<<bits)
				seen.Note("the greatest numbers", near > 0x1p1023)
			}
			want.G = append(want.G, column)
		}
		if !samples.SameProp(got, want) {
			t.Fatalf("%d / 2^%d of %s: %s, not %s", i, bits, text(p), text(got), text(want))
		}
	}
	seen.Expect(t, 8, "rounded", "rounded to 0", "-0", "the greatest numbers")
}

// 19.6: least and greatest numbers of columns, through the whole call.
func TestRadiusOfExtremes(t *testing.T) {
	n := netOf(1)
	// Half of the least number is 0 (the even one), three quarters of it the least number: with it the least sum is 0.
	p := cases.Within(cases.Asked(lists(numbers(1, least)), numbers(0), numbers(least)), 0, 1)
	expectRadius(t, n, p, 2, 2, robust(least, 1))
	// A product with the part would go too far before it is divided.
	p = cases.Within(cases.Asked(lists(numbers(1, 0x1.7p1022)), numbers(0), numbers(most)), 0, 1)
	expectRadius(t, n, p, 3, 2, robust(0x1.7p1022-most/4, 1))
}
