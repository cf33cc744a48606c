package margin

import (
	"math"
	"testing"

	"ambit/api"
	"ambit/oracle"
	"ambit/samples"
)

// aimed is a question with a target, and further claims.
func aimed(target int, claims ...[]float64) api.Prop { return api.Prop{Target: target, Claims: claims} }

// 17.1: a target alone: a claim for each other class, rising.
func TestClaimsOfATarget(t *testing.T) {
	expectClaims(t, aimed(0), 2, numbers(1, -1, 0))
	expectClaims(t, aimed(1), 2, numbers(-1, 1, 0))
	expectClaims(t, aimed(0), 4, numbers(1, -1, 0, 0, 0), numbers(1, 0, -1, 0, 0), numbers(1, 0, 0, -1, 0))
	expectClaims(t, aimed(2), 4, numbers(-1, 0, 1, 0, 0), numbers(0, -1, 1, 0, 0), numbers(0, 0, 1, -1, 0))
	expectClaims(t, aimed(3), 4, numbers(-1, 0, 0, 1, 0), numbers(0, -1, 0, 1, 0), numbers(0, 0, -1, 1, 0))
}

// 17.1: further claims alone, carried: all bits stay, that of a nought's sign too.
func TestClaimsWithoutATarget(t *testing.T) {
	minus := oracle.MinusZero()
	all := lists(numbers(1, minus, 3), numbers(minus, minus, minus), numbers(0, 0, 0), numbers(most, -most, least), numbers(0.1, -least, 0x1p-1022))
	expectClaims(t, aimed(-1, all...), 2, all...)
	expectClaims(t, aimed(-1, numbers(minus, 5)), 1, numbers(minus, 5))
	// The same one twice is two.
	expectClaims(t, aimed(-1, all[0], all[0]), 2, all[0], all[0])
}

// 17.1: the target's claims are ahead of the further ones.
func TestClaimsOfBoth(t *testing.T) {
	expectClaims(t, aimed(1, numbers(5, 6, 7, 8), numbers(9, 0, 0, 1)), 3, numbers(-1, 1, 0, 0), numbers(0, 1, -1, 0), numbers(5, 6, 7, 8), numbers(9, 0, 0, 1))
	expectClaims(t, aimed(0, numbers(1, -1, 0)), 2, numbers(1, -1, 0), numbers(1, -1, 0))
}

// 17.1: one output has no other class: a target claims nothing.
func TestClaimsOfOneOutput(t *testing.T) {
	expectClaims(t, aimed(0, numbers(1, 2)), 1, numbers(1, 2))
	expectClaims(t, aimed(-1, numbers(1, 2)), 1, numbers(1, 2))
	expectNoClaims(t, aimed(0), 1, api.ErrTarget)
	expectNoClaims(t, aimed(-1), 1, api.ErrTarget)
}

// 17.1: as many outputs as may be; further claims are told however many they are.
func TestClaimsOfTheWidest(t *testing.T) {
	for _, target := range []int{0, 1, 100, 254, 255} {
		got, e := Claims(aimed(target, samples.Columns(65, 257)...), 256)
		if e != api.OK || len(got) != 255+65 {
			t.Fatalf("%d: %d claims, %v", target, len(got), e)
		}
		k := 0
		for j := range 256 {
			if j == target {
				continue
			}
			want := make([]float64, 257)
			want[target], want[j] = 1, -1
			if !samples.SameNumbers(got[k], want) {
				t.Errorf("%d: the claim %d is %s", target, k, text(got[k]))
			}
			k++
		}
		for _, a := range got[255:] {
			if !samples.SameNumbers(a, samples.Ones(257)) {
				t.Errorf("%d: a further claim is %s", target, text(a))
			}
		}
	}
}

// 17.1: nothing else of a question is looked at.
func TestClaimsLookAtNothingElse(t *testing.T) {
	p := aimed(1)
	p.C, p.G, p.K, p.Depth, p.Looks = numbers(math.NaN()), lists(nil, numbers(1, 2)), -7, 99, 0
	expectClaims(t, p, 2, numbers(-1, 1, 0))
}

// 17.1: ErrTarget: outputs and targets out of bounds, and no claim at all.
func TestTargetsOutOfBounds(t *testing.T) {
	claim := func(m int) [][]float64 { return samples.Columns(1, max(min(m, 300), 0)+1) }
	for _, m := range []int{0, -1, -2, 257, 258, 1 << 32, 1<<32 + 2, math.MaxInt, math.MinInt} {
		for _, target := range []int{-2, -1, 0, 1, 255, 256} {
			expectNoClaims(t, aimed(target), m, api.ErrTarget)
			expectNoClaims(t, aimed(target, claim(m)...), m, api.ErrTarget)
		}
	}
	for _, m := range []int{1, 2, 3, 255, 256} {
		for _, target := range []int{-2, -3, m, m + 1, 256, 1 << 32, math.MaxInt, math.MinInt} {
			expectNoClaims(t, aimed(target), m, api.ErrTarget)
			expectNoClaims(t, aimed(target, claim(m)...), m, api.ErrTarget)
		}
		expectNoClaims(t, aimed(-1), m, api.ErrTarget)
		expectNoClaims(t, api.Prop{Target: -1, Claims: [][]float64{}}, m, api.ErrTarget)
		for _, target := range []int{-1, 0, m - 1} {
			if got, e := Claims(aimed(target, claim(m)...), m); e != api.OK || len(got) < 1 {
				t.Errorf("%d of %d: %v", target, m, e)
			}
		}
	}
}

// 17.1: ErrCount, whichever of the claims it is; also ahead of what is no number in another one.
func TestClaimsOfOtherLengths(t *testing.T) {
	good := numbers(1, 2, 3)
	for _, target := range []int{-1, 0, 1} {
		for _, a := range lists(nil, numbers(), numbers(1), numbers(1, 2), numbers(1, 2, 3, 4), samples.Ones(257), numbers(math.NaN())) {
			expectNoClaims(t, aimed(target, a), 2, api.ErrCount)
			expectNoClaims(t, aimed(target, a, good), 2, api.ErrCount)
			expectNoClaims(t, aimed(target, good, good, a), 2, api.ErrCount)
			expectNoClaims(t, aimed(target, numbers(1, math.NaN(), 3), a), 2, api.ErrCount)
		}
	}
}

// 17.1: ErrNumber, wherever it stands.
func TestClaimsWithNoNumbers(t *testing.T) {
	for _, none := range oracle.NoNumbers() {
		for i := range 3 {
			a := numbers(1, 2, 3)
			a[i] = none
			for _, target := range []int{-1, 0, 1} {
				expectNoClaims(t, aimed(target, a), 2, api.ErrNumber)
				expectNoClaims(t, aimed(target, numbers(1, 2, 3), a), 2, api.ErrNumber)
				expectNoClaims(t, aimed(target, a, numbers(1, 2, 3)), 2, api.ErrNumber)
			}
		}
	}
}

// 17.1, rule 5: where all of it is wrong, each error comes as the ones ahead of it are mended.
func TestOrderOfClaimErrors(t *testing.T) {
	p := aimed(2, numbers(1, math.NaN(), 3), numbers(1))
	expectNoClaims(t, p, 0, api.ErrTarget)
	expectNoClaims(t, p, 2, api.ErrTarget)
	p.Target = 1
	expectNoClaims(t, p, 2, api.ErrCount)
	p.Claims[1] = numbers(1, 2, 3)
	expectNoClaims(t, p, 2, api.ErrNumber)
	p.Claims[0][1] = 7
	expectClaims(t, p, 2, numbers(-1, 1, 0), numbers(1, 7, 3), numbers(1, 2, 3))
}

// wantClaims is what Claims tells of any question, by the words of DOC.md and of the chapter.
func wantClaims(p api.Prop, m int) ([][]float64, api.Errno) {
	others := 0
	if p.Target >= 0 {
		others = m - 1
	}
	if m < 1 || m > 256 || p.Target < -1 || p.Target >= m || others+len(p.Claims) == 0 {
		return nil, api.ErrTarget
	}
	e := api.OK
	for _, a := range p.Claims {
		for _, v := range a {
			if !isNumber(v) && e == api.OK {
				e = api.ErrNumber
			}
		}
		if len(a) != m+1 {
			e = api.ErrCount
		}
	}
	if e != api.OK {
		return nil, e
	}
	var all [][]float64
	for j := range others + 1 {
		if p.Target >= 0 && j != p.Target {
			a := make([]float64, m+1)
			a[p.Target]++
			a[j]--
			all = append(all, a)
		}
	}
	return append(all, p.Claims...), api.OK
}

// 17.1: of any question, and any number of outputs.
func TestTwinOfClaims(t *testing.T) {
	var m oracle.Mixer
	seen := oracle.Tally{}
	for range 6000 {
		p := samples.AnyProp(&m)
		width := samples.AnyWhole(&m)
		if len(p.Claims) > 0 && m.Below(3) > 0 {
			width = len(p.Claims[0]) - 1
		}
		if m.Below(6) == 0 && len(p.Claims) > 0 && len(p.Claims[0]) > 0 {
			p.Claims[0][0] = math.Inf(1)
		}
		want, e := wantClaims(p, width)
		if e != api.OK {
			expectNoClaims(t, p, width, e)
		} else {
			expectClaims(t, p, width, want...)
		}
		seen.Note(e.Error(), true)
		seen.Note("a target", e == api.OK && p.Target >= 0)
		seen.Note("none", e == api.OK && p.Target < 0)
	}
	for _, e := range []api.Errno{api.OK, api.ErrTarget, api.ErrCount, api.ErrNumber} {
		seen.Expect(t, 100, e.Error())
	}
	seen.Expect(t, 100, "a target", "none")
}
