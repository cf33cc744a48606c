package split

import (
	"fmt"
	"math"
	"math/big"
	"slices"
	"testing"

	"ambit/api"
	"ambit/oracle"
	"ambit/samples"
)

const (
	most  = oracle.Max
	least = oracle.Least
)

func numbers(l ...float64) []float64 { return l }

func lists(l ...[]float64) [][]float64 { return l }

func wholes(l ...int) []int { return l }

func region(pairs ...int) api.Region { return samples.Region(pairs...) }

// of is a zonotope of columns alone, made by no call: its centre and its box are 0.
func of(n int, ids []int, columns ...[]float64) api.Zono {
	return samples.Zonotope(make([]float64, n), ids, columns, make([]float64, n))
}

// columned is a question of which only the columns count.
func columned(columns ...[]float64) api.Prop { return api.Prop{G: columns} }

// text is what something looks like, as far as one may want to read.
func text(what any) string {
	s := fmt.Sprintf("%+v", what)
	return s[:min(len(s), 1200)]
}

// strange are whole numbers that are nearly nowhere within bounds.
func strange() []int {
	return []int{math.MinInt, math.MinInt + 1, -1 << 62, -1<<32 - 1, -1 << 32, -257, -256, -2, -1, 1 << 32, 1<<32 + 1, 1 << 62, math.MaxInt - 1, math.MaxInt}
}

// parts are the level and the place of every part there is.
func parts() [][2]int {
	var all [][2]int
	for level := range 9 {
		for at := range 1 << level {
			all = append(all, [2]int{level, at})
		}
	}
	return all
}

// isRegion tells whether r is a region of k symbols, by the words of the chapter.
func isRegion(r api.Region, k int) bool {
	if k < 0 || k > 256 || len(r.Level) != k || len(r.At) != k {
		return false
	}
	for s, level := range r.Level {
		if level < 0 || level > 8 || r.At[s] < 0 || r.At[s] > 1<<level-1 {
			return false
		}
	}
	return true
}

// noRegions are no regions of as many symbols as they have levels.
func noRegions() []api.Region {
	var all []api.Region
	for k := range 4 {
		for _, r := range samples.NoRegions(k) {
			if !isRegion(r, len(r.Level)) {
				all = append(all, r)
			}
		}
	}
	return append(all, samples.Cube(257), samples.Cube(1000), api.Region{At: wholes(0)}, api.Region{Level: wholes(0)}, api.Region{Level: wholes(0), At: make([]int, 257)})
}

// whole is a whole number as a fraction.
func whole(n int) *big.Rat { return new(big.Rat).SetInt64(int64(n)) }

func plus(a, b *big.Rat) *big.Rat { return new(big.Rat).Add(a, b) }

func times(a, b *big.Rat) *big.Rat { return new(big.Rat).Mul(a, b) }

// share is e / 2^depth.
func share(e, depth int) *big.Rat { return times(whole(e), oracle.Power(-depth)) }

func expectWhole(t *testing.T, k int, want api.Region) {
	t.Helper()
	if got, e := Whole(k); e != api.OK || !samples.SameRegion(got, want) {
		t.Errorf("Whole(%d): %s %v, not %s", k, text(got), e, text(want))
	}
}

func expectNoWhole(t *testing.T, k int) {
	t.Helper()
	if got, e := Whole(k); e != api.ErrArg || !samples.SameRegion(got, api.Region{}) {
		t.Errorf("Whole(%d): %s beside %v, not ErrArg alone", k, text(got), e)
	}
}

func expectCheck(t *testing.T, r api.Region, k int, want api.Errno) {
	t.Helper()
	if got := Check(r, k); got != want {
		t.Errorf("Check(%s, %d): %v, not %v", text(r), k, got, want)
	}
}

func expectHalves(t *testing.T, r api.Region, s int, lower, upper api.Region) {
	t.Helper()
	if a, b, e := Halve(r, s); e != api.OK || !samples.SameRegion(a, lower) || !samples.SameRegion(b, upper) {
		t.Errorf("Halve(%s, %d): %s and %s %v, not %s and %s", text(r), s, text(a), text(b), e, text(lower), text(upper))
	}
}

func expectNoHalves(t *testing.T, r api.Region, s int, want api.Errno) {
	t.Helper()
	if a, b, e := Halve(r, s); e != want || !samples.SameRegion(a, api.Region{}) || !samples.SameRegion(b, api.Region{}) {
		t.Errorf("Halve(%s, %d): %s and %s beside %v, not %v alone", text(r), s, text(a), text(b), e, want)
	}
}

func expectWay(t *testing.T, r api.Region, want int) {
	t.Helper()
	if got, e := Way(r); e != api.OK || got != want {
		t.Errorf("Way(%s): %d %v, not %d", text(r), got, e, want)
	}
}

func expectNoWay(t *testing.T, r api.Region) {
	t.Helper()
	if got, e := Way(r); e != api.ErrRegion || got != 0 {
		t.Errorf("Way(%s): %d beside %v, not ErrRegion alone", text(r), got, e)
	}
}

func expectEnds(t *testing.T, r api.Region, signs []int, depth int, want ...int) {
	t.Helper()
	if got, e := Ends(r, signs, depth); e != api.OK || !slices.Equal(got, want) {
		t.Errorf("Ends(%s, %v, %d): %v %v, not %v", text(r), signs, depth, got, e, want)
	}
}

func expectNoEnds(t *testing.T, r api.Region, signs []int, depth int, want api.Errno) {
	t.Helper()
	if got, e := Ends(r, signs, depth); e != want || len(got) > 0 {
		t.Errorf("Ends(%s, %v, %d): %v beside %v, not %v alone", text(r), signs, depth, got, e, want)
	}
}

func expectChoice(t *testing.T, z api.Zono, a []float64, p api.Prop, r api.Region, want int) {
	t.Helper()
	if got := Choose(z, a, p, r); got != want {
		t.Errorf("Choose(%s, %s, %s, %s): %d, not %d", text(z), text(a), text(p), text(r), got, want)
	}
}

func expectWithin(t *testing.T, r api.Region, e []int, depth int, want bool) {
	t.Helper()
	if got := Within(r, e, depth); got != want {
		t.Errorf("Within(%s, %v, %d): %v", text(r), e, depth, got)
	}
}
