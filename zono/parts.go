package zono

import (
	"iter"
	"math"

	"ambit/acc"
	"ambit/api"
	"ambit/round"
)

// columns goes through the columns with their Ids; there must be as many of the ones as of the others.
func columns(z api.Zono) iter.Seq2[int, []float64] {
	return func(yield func(int, []float64) bool) {
		for k, id := range z.Ids {
			if !yield(id, z.G[k]) {
				return
			}
		}
	}
}

// bad is the bad one of n coordinates.
func bad(n int) api.Zono { return api.Zono{N: n, Bad: true} }

// taken is z as every call takes it.
func taken(z api.Zono) api.Zono {
	if Check(z) != api.OK {
		return bad(0)
	}
	return z
}

// isBare tells whether z has nothing but coordinates, as a bad one must.
func isBare(z api.Zono) bool {
	return z.N >= 0 && z.N <= api.MaxWidth && len(z.C) == 0 && len(z.Ids) == 0 && len(z.G) == 0 && len(z.R) == 0
}

// isWhole tells whether z has all that a zonotope must have.
func isWhole(z api.Zono) bool {
	if z.N < 1 || z.N > api.MaxWidth || !areNumbers(z.C, z.N) || !areNumbers(z.R, z.N) || len(z.Ids) != len(z.G) {
		return false
	}
	for _, r := range z.R {
		if r < 0 {
			return false
		}
	}
	last := -1
	for id, g := range columns(z) {
		if id <= last || id > api.MaxId || !areNumbers(g, z.N) {
			return false
		}
		last = id
	}
	return true
}

// areNumbers tells whether a list is n numbers.
func areNumbers(l []float64, n int) bool {
	if len(l) != n {
		return false
	}
	for _, a := range l {
		if !round.Number(a) {
			return false
		}
	}
	return true
}

// plain is a list of the same values without a nought that has a sign.
func plain(l []float64) []float64 {
	all := make([]float64, len(l))
	for i, a := range l {
		all[i], _ = round.Next(api.Near, a)
	}
	return all
}

// fresh is z in memory of its own, as it may be told.
func fresh(z api.Zono) api.Zono {
	if z.Bad {
		return bad(z.N)
	}
	y := api.Zono{N: z.N, C: plain(z.C), R: plain(z.R)}
	for id, g := range columns(z) {
		y.Ids, y.G = append(y.Ids, id), append(y.G, plain(g))
	}
	return y
}

// reaches are, of each coordinate, how far columns and box go from the centre, exactly.
func reaches(z api.Zono) []*acc.Acc {
	all := accsOf(z.R)
	for _, g := range columns(z) {
		addSizes(all, g)
	}
	return all
}

// accsOf are Accs of the values of a list.
func accsOf(l []float64) []*acc.Acc {
	all := make([]*acc.Acc, len(l))
	for i, a := range l {
		all[i] = acc.New()
		all[i].Add(a)
	}
	return all
}

// addSizes adds to each Acc the absolute value of its number.
func addSizes(all []*acc.Acc, l []float64) {
	for i, a := range l {
		all[i].Add(math.Abs(a))
	}
}

// roundedUp are the numbers that up tells of all Accs; false, if it tells none of one.
func roundedUp(all []*acc.Acc) ([]float64, bool) {
	l := make([]float64, len(all))
	for i, x := range all {
		r, ok := x.Round(api.Up)
		if !ok {
			return nil, false
		}
		l[i] = r
	}
	return l, true
}

// dot is the exact sum of the products of two lists of one length.
func dot(a, b []float64) *acc.Acc {
	x := acc.New()
	for i := range a {
		x.Prod(a[i], b[i], 0)
	}
	return x
}
