package margin

import (
	"testing"

	"ambit/oracle"
	"ambit/samples"
)

// 17.2: the centre, the constant, the columns and the box, each with either sign of what stands there.
func TestMarginOfEachPart(t *testing.T) {
	expectMargin(t, pointed(3), numbers(2, 0), 6)
	expectMargin(t, pointed(3), numbers(-2, 0), -6)
	expectMargin(t, pointed(3), numbers(0, 5), 5)
	expectMargin(t, pointed(3, -4, 7), numbers(1, -2, 0, -0.5), 10.5)
	z := of(numbers(10, 20), ids(3, 9), lists(numbers(1, -2), numbers(0, 4)), numbers(0, 0))
	expectMargin(t, z, numbers(1, 0, 0), 9)
	expectMargin(t, z, numbers(-1, 0, 0), -11)
	expectMargin(t, z, numbers(0, 1, 0), 14)
	expectMargin(t, z, numbers(0, -1, 1), -25)
	// 10 + 20 - 1 less |1 - 2| and |4|.
	expectMargin(t, z, numbers(1, 1, -1), 24)
	expectMargin(t, z, numbers(3, -1, 0), 10-5-4)
}

// 17.2: a box has no sign: each coordinate's goes against the claim.
func TestMarginOfBoxes(t *testing.T) {
	z := of(numbers(10, 20), nil, nil, numbers(0.5, 3))
	expectMargin(t, z, numbers(1, 1, 0), 26.5)
	expectMargin(t, z, numbers(1, -1, 0), -13.5)
	expectMargin(t, z, numbers(-1, 1, 0), 6.5)
	expectMargin(t, z, numbers(-2, -2, 60), -7)
	expectMargin(t, z, numbers(0, 0, 1), 1)
	z.Ids, z.G = ids(0), lists(numbers(1, 1))
	expectMargin(t, z, numbers(-1, 1, 0), 6.5)
	expectMargin(t, z, numbers(1, 1, 0), 24.5)
}

// 17.2: a column falls out where the claim's sum of it is just 0, though its parts are great.
func TestMarginOfColumnsThatFallOut(t *testing.T) {
	z := of(numbers(1, 2, 0), ids(0, 5), lists(numbers(most, most, 0), numbers(0x1p53, 0x1p53, least)), numbers(0, 0, 0))
	expectMargin(t, z, numbers(-1, 1, 0, 0), 1)
	expectMargin(t, z, numbers(-3, 3, 0, 0.5), 3.5)
	// What is left of the second one is the least number, which is just too much.
	expectMargin(t, z, numbers(-1, 1, 1, 0), 1-0x1p-53)
	expectMargin(t, z, numbers(-1, 1, 1, -1), -least)
	expectMargin(t, of(numbers(0), ids(0, 1, 2), lists(numbers(0), numbers(oracle.MinusZero()), numbers(0)), numbers(0)), numbers(7, 0), 0)
}

// 17.2: just at 0, and next to it: down tells +0 of what is between 0 and the least number, and less than 0 of what is below 0.
func TestMarginAtNought(t *testing.T) {
	z := of(numbers(0.75, 0.25), ids(0), lists(numbers(0.5, 0)), numbers(0, 0))
	expectMargin(t, z, numbers(1, -1, 0), 0)
	expectMargin(t, z, numbers(1, -1, least), least)
	expectMargin(t, z, numbers(1, -1, -least), -least)
	expectMargin(t, pointed(least), numbers(0.5, 0), 0)
	expectMargin(t, pointed(-least), numbers(0.5, 0), -least)
	expectMargin(t, pointed(least), numbers(-least, 0), -least)
	expectMargin(t, pointed(least), numbers(least, 0), 0)
	expectMargin(t, pointed(1), numbers(1, -1), 0)
	expectMargin(t, of(numbers(1), nil, nil, numbers(1)), numbers(1, 0), 0)
	expectMargin(t, of(numbers(1), nil, nil, numbers(1+0x1p-52)), numbers(1, 0), -0x1p-52)
}

// 17.2: noughts with either sign: what is told is +0.
func TestMarginOfNoughts(t *testing.T) {
	minus := oracle.MinusZero()
	for _, c := range numbers(0, minus) {
		for _, a := range numbers(0, minus, 1, -1) {
			for _, b := range numbers(0, minus) {
				expectMargin(t, pointed(c), numbers(a, b), 0)
				expectMargin(t, of(numbers(c), ids(0), lists(numbers(b)), numbers(c)), numbers(a, b), 0)
				expectMargin(t, of(numbers(5), ids(0), lists(numbers(7)), numbers(9)), numbers(c, b), 0)
			}
		}
	}
}

// 17.2: one rounding, downward, of the whole sum.
func TestMarginRoundsOnceAndDown(t *testing.T) {
	expectMargin(t, pointed(1, 0x1p-60), numbers(1, 1, 0), 1)
	expectMargin(t, pointed(1, 0x1p-60), numbers(1, -1, 0), 1-0x1p-53)
	expectMargin(t, pointed(1, 0x1p-53), numbers(-1, -1, 0), -1-0x1p-52)
	// Twice a half of the last place is a whole one.
	expectMargin(t, pointed(1, 0x1p-53), numbers(1, 1, 0x1p-53), 1+0x1p-52)
	expectMargin(t, of(numbers(1), ids(0, 1), lists(numbers(0x1p-54), numbers(0x1p-54)), numbers(0)), numbers(1, 0), 1-0x1p-53)
	expectMargin(t, of(numbers(1), ids(0, 1), lists(numbers(0x1p-55), numbers(0x1p-55)), numbers(0x1p-60)), numbers(1, 0), 1-0x1p-53)
	// Neither a product nor a column's sum is rounded: 0.1 * 10 is more than 1.
	expectMargin(t, pointed(0.1), numbers(10, -1), 0x1p-54)
	expectMargin(t, of(numbers(1), ids(2), lists(numbers(0.1)), numbers(0)), numbers(10, -9), -0x1p-54)
	expectMargin(t, of(numbers(1), nil, nil, numbers(0.1)), numbers(10, -9), -0x1p-54)
}

// 17.2: sums past the greatest number and back; what stays above it is that number, what stays below the least one is none.
func TestMarginPastTheGreatest(t *testing.T) {
	z := pointed(most, most)
	expectMargin(t, z, numbers(1, 1, -most), most)
	expectMargin(t, z, numbers(most, -most, 1), 1)
	expectMargin(t, z, numbers(1, 1, 0), most)
	expectMargin(t, z, numbers(most, most, most), most)
	expectMargin(t, z, numbers(1, 0, least), most)
	expectMargin(t, z, numbers(-1, 0, 0), -most)
	expectMargin(t, z, numbers(-1, 0, least), -most)
	expectNoMargin(t, z, numbers(-1, 0, -least))
	expectNoMargin(t, z, numbers(-1, -1, 0))
	expectNoMargin(t, z, numbers(-1, -1, most-0x1p971))
	expectMargin(t, z, numbers(-1, -1, most), -most)
	expectNoMargin(t, z, numbers(-most, -most, most))
	// Columns and a box that go past it, and a centre that brings them back.
	z = of(numbers(most), ids(0, 1), lists(numbers(most), numbers(-most)), numbers(most))
	expectMargin(t, z, numbers(1, most), -most)
	expectNoMargin(t, z, numbers(1, 0))
	expectNoMargin(t, z, numbers(-1, most))
	expectMargin(t, z, numbers(0.25, 0), -most/2)
	expectMargin(t, of(numbers(most), ids(0), lists(numbers(most)), numbers(0)), numbers(most, 0), 0)
}

// 17.2: as many coordinates as may be, and many columns.
func TestMarginOfTheWidest(t *testing.T) {
	z := of(samples.Ones(256), nil, nil, samples.Ones(256))
	for k := range 600 {
		z.Ids, z.G = append(z.Ids, 3*k), append(z.G, samples.Ones(256))
	}
	a := samples.Ones(257)
	expectMargin(t, z, a, 257-600*256-256)
	a[256] = 600*256 + 1
	expectMargin(t, z, a, 1)
	for i := range 128 {
		a[2*i] = -1
	}
	a[256] = 0
	expectMargin(t, z, a, -256)
}

// 17.2: what is bad or no zonotope, whatever claim there is.
func TestMarginOfNoZonotopes(t *testing.T) {
	all := samples.SpoiltZonos()
	for n := range 5 {
		all = append(all, samples.BadZono(n))
	}
	for _, z := range all {
		for n := range 6 {
			a := samples.Ones(n)
			expectNoMargin(t, z, a)
			expectNoWorst(t, z, lists(a))
			expectNoSigns(t, z, a, 4)
		}
	}
}

// 17.2 to 17.4: claims of another length, nil ones among them.
func TestClaimsOfOtherLengthsThanZonotopes(t *testing.T) {
	for _, z := range []int{1, 2, 3, 256} {
		wide := samples.WideZono(z, 2)
		for _, n := range []int{0, 1, z - 1, z, z + 2, 2*z + 2, 300} {
			if n == z+1 {
				continue
			}
			for _, a := range lists(samples.Ones(n), make([]float64, n)) {
				expectNoMargin(t, wide, a)
				expectNoWorst(t, wide, lists(a))
				expectNoWorst(t, wide, lists(samples.Ones(z+1), a))
				expectNoSigns(t, wide, a, 3)
			}
		}
		expectNoMargin(t, wide, nil)
		expectNoWorst(t, wide, lists(nil))
		expectNoSigns(t, wide, nil, 3)
	}
}

// 17.2 to 17.4: what is no number in a claim, wherever it stands.
func TestClaimsWithNoNumbersOverZonotopes(t *testing.T) {
	for _, none := range oracle.NoNumbers() {
		for i := range 3 {
			a := numbers(1, 2, 3)
			a[i] = none
			expectNoMargin(t, first(), a)
			expectNoWorst(t, first(), lists(a))
			expectNoWorst(t, first(), lists(numbers(1, 2, 3), a, numbers(0, 0, 0)))
			expectNoSigns(t, first(), a, 2)
		}
	}
}

// 17.3: the least margin, wherever it stands.
func TestWorstAtEachPlace(t *testing.T) {
	z := pointed(1)
	all := lists(numbers(1, 4), numbers(1, 5), numbers(1, 6), numbers(1, 7))
	expectWorst(t, z, all, 0, 5)
	for i := range all {
		claims := append(lists(), all...)
		claims[i] = numbers(-1, 2)
		expectWorst(t, z, claims, i, 1)
		claims[i] = numbers(-1, 1)
		expectWorst(t, z, claims, i, 0)
		claims[i] = numbers(-1, 0.5)
		expectWorst(t, z, claims, i, -0.5)
	}
	expectWorst(t, z, all[3:], 0, 8)
	// Less and less: the last one.
	expectWorst(t, z, lists(all[3], all[2], all[1], all[0]), 3, 5)
}

// 17.3: of equal margins the first one; those that round to one number are equal, and so are noughts.
func TestWorstOfEqualOnes(t *testing.T) {
	expectWorst(t, first(), lists(numbers(1, -1, 0), numbers(1, 0, 0), numbers(1, 0, 0)), 1, -0.25)
	expectWorst(t, first(), lists(numbers(1, 0, 0), numbers(1, 0, 0), numbers(1, -1, 0)), 0, -0.25)
	expectWorst(t, pointed(1), lists(numbers(1, 0x1p-54), numbers(1, 0x1p-55), numbers(1, 0)), 0, 1)
	expectWorst(t, pointed(1), lists(numbers(1, 0), numbers(1, -0x1p-60), numbers(1, -0x1p-54)), 1, 1-0x1p-53)
	expectWorst(t, pointed(0), lists(numbers(1, 0), numbers(-1, oracle.MinusZero())), 0, 0)
	expectWorst(t, pointed(most), lists(numbers(1, most), numbers(1, 0), numbers(2, 0)), 0, most)
}

// 17.3: no claim, or one whose margin is none, wherever it stands.
func TestWorstOfNone(t *testing.T) {
	expectNoWorst(t, first(), nil)
	expectNoWorst(t, first(), lists())
	all := lists(numbers(1, 0), numbers(1, 1), numbers(1, 2))
	expectWorst(t, pointed(most), all, 0, most)
	for i := range all {
		claims := append(lists(), all...)
		claims[i] = numbers(-1, -1)
		expectNoWorst(t, pointed(most), claims)
		claims[i] = numbers(-1, 0)
		expectWorst(t, pointed(most), claims, i, -most)
	}
}
