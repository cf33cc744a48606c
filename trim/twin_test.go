package trim

import (
	"math/big"
	"slices"
	"testing"

	"ambit/api"
	"ambit/oracle"
	"ambit/samples"
	"ambit/zono"
)

// A second trim, of exact fractions, by the words of the chapter.

func size(a float64) *big.Rat { return new(big.Rat).Abs(oracle.Exact(a)) }

func plus(a, b *big.Rat) *big.Rat { return new(big.Rat).Add(a, b) }

func times(a, b *big.Rat) *big.Rat { return new(big.Rat).Mul(a, b) }

// wantLoss is the sum of the sizes, less the greatest.
func wantLoss(g []float64) *big.Rat {
	sum, greatest := new(big.Rat), new(big.Rat)
	for _, a := range g {
		sum = plus(sum, size(a))
		if size(a).Cmp(greatest) > 0 {
			greatest = size(a)
		}
	}
	return sum.Sub(sum, greatest)
}

// wantOrder tells the first again and again: none that is left has a lesser loss, and none of the same loss a lesser number.
func wantOrder(z api.Zono) []int {
	var order []int
	if zono.Check(z) != api.OK {
		return order
	}
	left := map[int]*big.Rat{}
	for k, id := range z.Ids {
		left[id] = wantLoss(z.G[k])
	}
	for len(left) > 0 {
		best := -1
		for id, loss := range left {
			if best < 0 || loss.Cmp(left[best]) < 0 || loss.Cmp(left[best]) == 0 && id < best {
				best = id
			}
		}
		order = append(order, best)
		delete(left, best)
	}
	return order
}

// values are numbers as they are told: by their values alone.
func values(l []float64) []float64 {
	all := slices.Clone(l)
	for i, a := range all {
		if a == 0 {
			all[i] = 0
		}
	}
	return all
}

func wantReduce(z api.Zono, most int) api.Zono {
	if zono.Check(z) != api.OK {
		return samples.BadZono(0)
	}
	if z.Bad {
		return samples.BadZono(z.N)
	}
	gone := wantOrder(z)
	for range max(most, 0) {
		if len(gone) > 0 {
			gone = gone[:len(gone)-1]
		}
	}
	y := of(values(z.C), nil, nil, nil)
	for i := range z.N {
		sum := oracle.Exact(z.R[i])
		for k, id := range z.Ids {
			if slices.Contains(gone, id) {
				sum = plus(sum, size(z.G[k][i]))
			}
		}
		r := oracle.Roundings(sum)
		if !r.Is[api.Up] {
			return samples.BadZono(z.N)
		}
		y.R = append(y.R, r.Number[api.Up])
	}
	for k, id := range z.Ids {
		if !slices.Contains(gone, id) {
			y.Ids, y.G = append(y.Ids, id), append(y.G, values(z.G[k]))
		}
	}
	return y
}

// sameLosses tells whether two columns have the same loss, which is above 0.
func sameLosses(z api.Zono) bool {
	for k, g := range z.G {
		for _, h := range z.G[:k] {
			if wantLoss(g).Sign() > 0 && wantLoss(g).Cmp(wantLoss(h)) == 0 {
				return true
			}
		}
	}
	return false
}

// 11.1, 11.2: the same answers, and each kind of answer comes up.
func TestTwin(t *testing.T) {
	var m oracle.Mixer
	seen := map[string]int{}
	count := func(name string, is bool) {
		if is {
			seen[name]++
		}
	}
	for range 4000 {
		z, most := whatever(&m), m.Below(9)-1
		order, want := wantOrder(z), wantReduce(z, most)
		expectOrder(t, z, order...)
		expectReduce(t, z, most, want)
		if t.Failed() {
			return
		}
		good := zono.Check(z) == api.OK && !z.Bad
		count("no zonotope", zono.Check(z) != api.OK)
		count("a bad one", z.Bad && want.N > 0)
		count("the same losses", good && sameLosses(z))
		count("another order than that of the numbers", good && !slices.IsSorted(order))
		count("fewer columns", good && !want.Bad && len(want.Ids) > 0 && len(want.Ids) < len(z.Ids))
		count("as many columns", good && !want.Bad && len(want.Ids) == len(z.Ids))
		count("no number", good && want.Bad)
	}
	for _, name := range []string{"no zonotope", "a bad one", "the same losses", "another order than that of the numbers", "fewer columns", "as many columns", "no number"} {
		if seen[name] < 40 {
			t.Errorf("%s came up %d times only", name, seen[name])
		}
	}
}
