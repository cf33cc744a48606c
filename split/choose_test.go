package split

import (
	"math"
	"testing"

	"ambit/api"
	"ambit/oracle"
	"ambit/samples"
)

// other is a question of k symbols whose longest column is the last one, so that what is told of a zonotope isn't told of it.
func other(k int) api.Prop {
	var p api.Prop
	for s := range k {
		p.G = append(p.G, numbers(float64(s+1)))
	}
	return p
}

// 18.6: the column whose sum with the claim is greatest, wherever it stands and whatever its sign is.
func TestChooseByTheClaim(t *testing.T) {
	for at := range 3 {
		for _, g := range numbers(5, -5) {
			z := of(2, wholes(0, 1, 2), numbers(4, 100), numbers(-4, 200), numbers(3, -300))
			z.G[at][0] = g
			expectChoice(t, z, numbers(1, 0, 0), other(3), samples.Cube(3), at)
			expectChoice(t, z, numbers(-0.5, 0, 7), other(3), samples.Cube(3), at)
		}
	}
	// The sums are 1, -2, 2.5 and 4, -1, 0.5.
	z := of(2, wholes(0, 1, 2), numbers(1, 3), numbers(-2, 1), numbers(2.5, -2))
	expectChoice(t, z, numbers(1, 0, 0), other(3), samples.Cube(3), 2)
	expectChoice(t, z, numbers(1, 1, 0), other(3), samples.Cube(3), 0)
	expectChoice(t, z, numbers(0, 1, 0), other(3), samples.Cube(3), 0)
	expectChoice(t, z, numbers(2, -1, 0), other(3), samples.Cube(3), 2)
	expectChoice(t, z, numbers(-1, 0.5, 0), other(3), samples.Cube(3), 2)
}

// 18.6: neither the centre nor the box nor the claim's constant counts, nor how often a symbol was halved.
func TestChooseByColumnsAlone(t *testing.T) {
	z := of(2, wholes(0, 1), numbers(1, 0), numbers(2, 0))
	for _, c := range []float64{0, 1e9, -most} {
		z.C, z.R = numbers(c, -c), numbers(math.Abs(c), 3)
		for _, r := range []api.Region{samples.Cube(2), region(0, 0, 8, 255), region(8, 0, 8, 7), region(8, 3, 0, 0)} {
			expectChoice(t, z, numbers(1, 1, c), other(2), r, 1)
			expectChoice(t, z, numbers(1, 1, c), columned(numbers(9), numbers(1)), r, 1)
		}
	}
}

// 18.6: of equal sums, without their signs, the least Id.
func TestChooseOfEqualSums(t *testing.T) {
	a := numbers(1, 1, 0)
	expectChoice(t, of(2, wholes(0, 1), numbers(1, 2), numbers(2, 1)), a, other(2), samples.Cube(2), 0)
	expectChoice(t, of(2, wholes(0, 1), numbers(1, 2), numbers(-2, -1)), a, other(2), samples.Cube(2), 0)
	expectChoice(t, of(2, wholes(0, 1), numbers(-1, -2), numbers(2, 1)), a, other(2), samples.Cube(2), 0)
	expectChoice(t, of(2, wholes(0, 1, 2), numbers(1, 1), numbers(-2, -1), numbers(0, 3)), a, other(3), samples.Cube(3), 1)
	expectChoice(t, of(2, wholes(2, 4, 6), numbers(0, -3), numbers(-2, -1), numbers(0, 3)), a, other(7), samples.Cube(7), 2)
	// Though they are made of other numbers: 2^53 + 1 is no number.
	expectChoice(t, of(3, wholes(0, 1), numbers(0x1p53, 1, 0), numbers(0x1p52, 0x1p52, 1)), numbers(1, 1, 1, 0), other(2), samples.Cube(2), 0)
}

// 18.6: sums that differ by less than any rounding would tell, either way round.
func TestChooseIsExact(t *testing.T) {
	a := numbers(1, 1, 1, 0)
	for _, pair := range [][2][]float64{
		{numbers(0x1p53, 0, 0), numbers(0x1p53, 1, 0)},
		{numbers(1, 0, 0), numbers(1, least, 0)},
		{numbers(most, 0, 0), numbers(most, 0, least)},
		{numbers(most, most, 0), numbers(most, most, least)},
		{numbers(-most, -most, -most), numbers(most, most, most-0x1p971)},
		{numbers(0x1p60, 1, -0x1p60), numbers(0x1p60, 1+0x1p-52, -0x1p60)},
		{numbers(0.1, 0.2, 0), numbers(0.3, 0, 0)},
	} {
		less, more := pair[0], pair[1]
		if v, w := sumOf(a, less), sumOf(a, more); v.Abs(v).Cmp(w.Abs(w)) > 0 {
			less, more = more, less
		}
		expectChoice(t, of(3, wholes(0, 1), less, more), a, other(2), samples.Cube(2), 1)
		expectChoice(t, of(3, wholes(0, 1), more, less), a, other(2), samples.Cube(2), 0)
	}
	// Products that are no numbers: less than the least one, and past the greatest.
	expectChoice(t, of(1, wholes(0, 1), numbers(least), numbers(2*least)), numbers(least, 0), other(2), samples.Cube(2), 1)
	expectChoice(t, of(1, wholes(0, 1), numbers(most), numbers(most-0x1p971)), numbers(most, 0), other(2), samples.Cube(2), 0)
	expectChoice(t, of(1, wholes(0, 1), numbers(most-0x1p971), numbers(-most)), numbers(most, 0), other(2), samples.Cube(2), 1)
	// 3 * 0.1 lies just between two numbers: rounded it would be equal to the second one of them.
	a = numbers(3, 1, 0)
	expectChoice(t, of(2, wholes(0, 1), numbers(0.1, 0), numbers(0, 0x1.3333333333333p-2)), a, other(2), samples.Cube(2), 0)
	expectChoice(t, of(2, wholes(0, 1), numbers(0.1, 0), numbers(0, 0x1.3333333333334p-2)), a, other(2), samples.Cube(2), 1)
}

// 18.6: a sum that is 0 is no choice, though its parts are great; what is left of others is.
func TestChooseWhereSumsFallOut(t *testing.T) {
	a := numbers(1, -1, 0)
	expectChoice(t, of(2, wholes(0, 1), numbers(most, most), numbers(least, 0)), a, other(2), samples.Cube(2), 1)
	expectChoice(t, of(2, wholes(0, 1), numbers(0, -least), numbers(7, 7)), a, other(2), samples.Cube(2), 0)
	expectChoice(t, of(2, wholes(0, 1, 2), numbers(0, 0), numbers(1, 1), numbers(3, 4)), a, other(3), samples.Cube(3), 2)
	// All of them fall out: the question's columns are asked.
	z := of(2, wholes(0, 1, 2), numbers(5, 5), numbers(oracle.MinusZero(), 0), numbers(-2, -2))
	expectChoice(t, z, a, columned(numbers(1), numbers(3), numbers(2)), samples.Cube(3), 1)
	expectChoice(t, z, numbers(0, 0, 9), columned(numbers(1), numbers(3), numbers(2)), samples.Cube(3), 1)
	expectChoice(t, z, numbers(oracle.MinusZero(), 0, 0), columned(numbers(1), numbers(3), numbers(2)), samples.Cube(3), 1)
}

// 18.6: columns with Ids of k and above are no symbols, however great they are.
func TestChooseHeedsIdsBelowK(t *testing.T) {
	a := numbers(1, 0)
	for _, id := range []int{2, 3, 256, 1000, api.MaxId} {
		z := of(1, wholes(0, 1, id), numbers(2), numbers(1), numbers(9))
		expectChoice(t, z, a, other(2), samples.Cube(2), 0)
		z = of(1, wholes(1, id), numbers(1), numbers(9))
		expectChoice(t, z, a, columned(numbers(9), numbers(1)), samples.Cube(2), 1)
		// None is left: the question's columns are asked.
		z = of(1, wholes(id), numbers(9))
		expectChoice(t, z, a, columned(numbers(9), numbers(1)), samples.Cube(2), 0)
		z = of(1, wholes(0, 1, id), numbers(0), numbers(0), numbers(9))
		expectChoice(t, z, a, columned(numbers(1), numbers(9)), samples.Cube(2), 1)
	}
	// What is a symbol of three is none of two.
	z := of(1, wholes(0, 1, 2), numbers(2), numbers(1), numbers(9))
	expectChoice(t, z, a, other(3), samples.Cube(3), 2)
	expectChoice(t, z, a, other(1), samples.Cube(1), 0)
	expectChoice(t, of(1, nil), a, other(2), samples.Cube(2), 1)
}

// 18.6: the Id is told, not the place among the columns; as many symbols as may be.
func TestChooseTellsIds(t *testing.T) {
	z := of(1, wholes(3, 7, 200, 255, 256), numbers(1), numbers(2), numbers(-4), numbers(3), numbers(99))
	expectChoice(t, z, numbers(1, 0), other(256), samples.Cube(256), 200)
	z.G[3][0] = 4 + 0x1p-50
	expectChoice(t, z, numbers(1, 0), other(256), samples.Cube(256), 255)
	expectChoice(t, z, numbers(1, 0), other(255), samples.Cube(255), 200)
	expectChoice(t, z, numbers(1, 0), other(8), samples.Cube(8), 7)
	expectChoice(t, z, numbers(1, 0), other(4), samples.Cube(4), 3)
	expectChoice(t, z, numbers(1, 0), other(3), samples.Cube(3), 2)
}

// nothing are zonotopes and claims of which nothing is told, each for another reason; none has columns with another Id than 0 and 3.
func nothing() (z []api.Zono, a [][]float64) {
	for _, none := range append(samples.SpoiltZonos(), samples.BadZono(0), samples.BadZono(2), samples.BadZono(256)) {
		z, a = append(z, none), append(a, numbers(1, 2, 3))
	}
	for _, claim := range append(lists(nil, numbers(), numbers(1), numbers(1, 2), numbers(1, 2, 3, 4)), samples.Ones(257)) {
		z, a = append(z, of(2, wholes(0, 3), numbers(1, 0), numbers(1, -1))), append(a, claim)
	}
	for _, none := range oracle.NoNumbers() {
		for i := range 3 {
			claim := numbers(1, 2, 3)
			claim[i] = none
			z, a = append(z, of(2, wholes(0, 3), numbers(1, 0), numbers(1, -1))), append(a, claim)
			z, a = append(z, of(2, wholes(0), numbers(0, 0))), append(a, claim)
		}
	}
	return z, a
}

// 18.6: where zonotope and claim tell nothing, the question's columns are asked.
func TestChooseWithoutZonotope(t *testing.T) {
	z, a := nothing()
	for i := range z {
		expectChoice(t, z[i], a[i], columned(numbers(1), numbers(2), numbers(-3), numbers(1)), samples.Cube(4), 2)
		expectChoice(t, z[i], a[i], columned(numbers(1), numbers(2), numbers(-3), numbers(1)), region(0, 0, 0, 0, 1, 1, 0, 0), 1)
		expectChoice(t, z[i], a[i], columned(numbers(0), numbers(0), numbers(0), numbers(0)), samples.Cube(4), -1)
		expectChoice(t, z[i], a[i], api.Prop{}, api.Region{}, -1)
	}
}

// byColumns holds Choose to what it tells of a question's columns alone.
func byColumns(t *testing.T, r api.Region, want int, columns ...[]float64) {
	t.Helper()
	expectChoice(t, samples.BadZono(1), nil, columned(columns...), r, want)
	expectChoice(t, of(1, nil), numbers(1, 0), columned(columns...), r, want)
}

// 18.6: the longest column, wherever it stands: all its numbers count, without their signs.
func TestChooseByLength(t *testing.T) {
	cube := samples.Cube(3)
	byColumns(t, cube, 0, numbers(3, 3), numbers(5, 0), numbers(0, -5))
	byColumns(t, cube, 1, numbers(3, 3), numbers(-4, 3), numbers(0, -5))
	byColumns(t, cube, 2, numbers(3, -3), numbers(-4, 3), numbers(-4, -4))
	byColumns(t, cube, 1, numbers(0, 0), numbers(-least, 0), numbers(0, oracle.MinusZero()))
	// Of equal ones the least.
	byColumns(t, cube, 0, numbers(3, 4), numbers(-7, 0), numbers(7, 0))
	byColumns(t, cube, 1, numbers(3, 3), numbers(-7, 0), numbers(4, 3))
	// Lists of other lengths are as long as they are.
	byColumns(t, cube, 2, nil, numbers(1), samples.Ones(700))
	byColumns(t, cube, 1, numbers(), numbers(1), nil)
}

// 18.6: how far the region goes turns the order: a column is halved as often as its symbol was.
func TestChooseByLengthInTheRegion(t *testing.T) {
	one, three := numbers(1, 0), numbers(0, -3)
	byColumns(t, region(0, 0, 0, 0), 1, one, three)
	byColumns(t, region(0, 0, 1, 0), 1, one, three)
	byColumns(t, region(0, 0, 2, 0), 0, one, three)
	byColumns(t, region(1, 1, 2, 3), 1, one, three)
	byColumns(t, region(8, 255, 8, 0), 1, one, three)
	byColumns(t, region(0, 0, 8, 255), 0, numbers(1), numbers(255.5))
	// Just as long: the least one. A little more turns it.
	byColumns(t, region(0, 0, 8, 9), 0, numbers(1), numbers(256))
	byColumns(t, region(0, 0, 8, 9), 1, numbers(1), numbers(256+0x1p-44))
	byColumns(t, region(8, 9, 0, 0), 0, numbers(256), numbers(1))
	byColumns(t, region(8, 9, 0, 0), 1, numbers(256-0x1p-45), numbers(1))
	// Where an end lies counts for nothing.
	for _, at := range []int{0, 1, 2, 3} {
		byColumns(t, region(2, at, 2, 3-at), 1, numbers(1), numbers(2))
	}
}

// 18.6: lengths are exact: they are neither rounded where they are summed nor where they are halved, nor can they be too great.
func TestChooseByExactLength(t *testing.T) {
	cube := samples.Cube(2)
	byColumns(t, cube, 1, numbers(0x1p53, 0, 0), numbers(0x1p53, -1, 0))
	byColumns(t, cube, 0, numbers(0x1p53, 1, 1), numbers(0x1p53, -1, 0))
	byColumns(t, cube, 1, numbers(1), numbers(1, least))
	byColumns(t, cube, 1, numbers(most, most), numbers(most, -most, least))
	byColumns(t, cube, 0, numbers(most, most), numbers(most, most-0x1p971))
	byColumns(t, region(8, 0, 0, 0), 1, numbers(most), numbers(most))
	byColumns(t, region(8, 0, 0, 0), 0, numbers(least), numbers(0))
	byColumns(t, region(8, 0, 7, 0), 1, numbers(least), numbers(least))
	byColumns(t, region(8, 0, 8, 0), 1, numbers(least), numbers(-2*least))
	byColumns(t, region(8, 0, 7, 0), 0, numbers(2*least), numbers(least))
}

// 18.6: nothing goes anywhere, or there is no symbol.
func TestChooseOfNoughts(t *testing.T) {
	byColumns(t, samples.Cube(0), -1)
	byColumns(t, samples.Cube(1), -1, numbers(0, 0))
	byColumns(t, samples.Cube(2), -1, numbers(0, oracle.MinusZero()), nil)
	byColumns(t, region(8, 3, 8, 200), -1, numbers(oracle.MinusZero()), numbers(0))
	expectChoice(t, of(1, wholes(0), numbers(5)), numbers(1, 0), api.Prop{}, api.Region{}, -1)
	expectChoice(t, of(1, wholes(0), numbers(5)), numbers(1, 0), api.Prop{G: lists()}, api.Region{Level: wholes(), At: wholes()}, -1)
	expectChoice(t, of(1, wholes(0), numbers(0)), numbers(1, 0), columned(numbers(0)), samples.Cube(1), -1)
}

// 18.6: what is no number in the question's columns, wherever it stands, if they are asked; where the zonotope tells, they are not.
func TestChooseOfNoNumbers(t *testing.T) {
	for _, none := range oracle.NoNumbers() {
		for s := range 3 {
			for i := range 2 {
				g := lists(numbers(1, 2), numbers(3, 4), numbers(0, 0))
				g[s][i] = none
				byColumns(t, samples.Cube(3), -1, g...)
				byColumns(t, region(8, 1, 0, 0, 3, 3), -1, g...)
				expectChoice(t, of(1, wholes(0, 1), numbers(0), numbers(5)), numbers(1, 0), columned(g...), samples.Cube(3), 1)
				expectChoice(t, of(1, wholes(0, 1), numbers(0), numbers(5)), numbers(0, 0), columned(g...), samples.Cube(3), -1)
			}
		}
	}
}

// 18.6: no region of as many symbols as the question has columns, though the zonotope or the columns would tell.
func TestChooseOfNoRegions(t *testing.T) {
	z, a := of(1, wholes(0, 1, 2), numbers(3), numbers(5), numbers(4)), numbers(1, 0)
	for k := range 4 {
		for _, r := range samples.NoRegions(k) {
			expectChoice(t, z, a, other(k), r, -1)
			expectChoice(t, samples.BadZono(1), nil, other(k), r, -1)
		}
	}
	expectChoice(t, z, a, other(256), samples.Cube(256), 1)
	expectChoice(t, z, a, other(257), samples.Cube(257), -1)
	expectChoice(t, samples.BadZono(1), nil, other(256), samples.Cube(256), 255)
	expectChoice(t, samples.BadZono(1), nil, other(257), samples.Cube(257), -1)
}

// 18.6: neither levels nor budgets are asked: a symbol that can't be halved any more is named all the same, whatever else the question holds.
func TestChooseAsksNoBudgets(t *testing.T) {
	full := region(8, 255, 8, 0)
	for _, p := range []api.Prop{{}, {K: -1, Depth: -1, Looks: -1, Target: 99}, {C: numbers(math.NaN()), Claims: lists(nil)}} {
		p.G = lists(numbers(1), numbers(2))
		expectChoice(t, of(1, wholes(0, 1), numbers(2), numbers(1)), numbers(1, 0), p, full, 0)
		expectChoice(t, samples.BadZono(1), nil, p, full, 1)
	}
}

// 18.6: a wide zonotope with as many columns as a trace has, and a wide claim.
func TestChooseOfTheWidest(t *testing.T) {
	z := samples.WideZono(256, 1)
	z.Ids, z.G = nil, nil
	for id := range 2560 {
		g := samples.Ones(256)
		g[id%256] = 1 + float64(id%7)
		z.Ids, z.G = append(z.Ids, id), append(z.G, g)
	}
	z.G[251][3] = 8
	expectChoice(t, z, samples.Ones(257), other(256), samples.Cube(256), 251)
	expectChoice(t, z, samples.Ones(257), other(251), samples.Cube(251), 6)
}

// 18.6, Ways: what is greatest is told of anything with an order: the first of equal ones, and what can't be compared is not above.
func TestGreatest(t *testing.T) {
	for i, c := range []struct {
		l    []mark
		want int
	}{{nil, -1}, {[]mark{5}, 0}, {[]mark{1, 2, 3}, 2}, {[]mark{3, 2, 1}, 0}, {[]mark{1, 3, 2, 3}, 1}, {[]mark{4, 4}, 0}, {[]mark{1, 9, 2}, 2}, {[]mark{2, 9, 1}, 0}, {[]mark{9, 5}, 0}, {[]mark{-7, -8}, 0}} {
		if got := greatest(c.l); got != c.want {
			t.Errorf("%d: %d, not %d", i, got, c.want)
		}
	}
}

// A mark has an order; 9 can't be compared.
type mark int

func (m mark) Cmp(n mark) (int, bool) {
	if m == 9 || n == 9 {
		return 0, false
	}
	return int(m - n), true
}
