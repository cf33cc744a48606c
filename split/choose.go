package split

import (
	"math"

	"ambit/acc"
	"ambit/api"
	"ambit/zono"
)

// byClaim is the symbol whose column turns a claim's sum most over a zonotope; -1, if none below k does, or nothing can be told.
func byClaim(z api.Zono, a []float64, k int) int {
	if zono.Check(z) != api.OK || z.Bad || len(a) != z.N+1 || !areNumbers(a) {
		return -1
	}
	var turns []*acc.Acc
	for c, id := range z.Ids {
		if id < k {
			turns = append(turns, turn(a, z.G[c]))
		}
	}
	at := greatestAboveNought(turns)
	if at < 0 {
		return -1
	}
	// Ids rise, so those below k stand ahead of all others.
	return z.Ids[at]
}

// areNumbers tells whether all of a list are numbers.
func areNumbers(l []float64) bool {
	// A sum of what is no number is bad, and as few as these make no sum too great.
	sum := acc.New()
	for _, a := range l {
		sum.Add(a)
	}
	return !sum.Bad()
}

// turn is how far a column turns a claim's sum, without its sign, exactly.
func turn(a, column []float64) *acc.Acc {
	sum := acc.New()
	for i, g := range column {
		// Of many outputs a target's claims take two.
		if a[i] != 0 {
			sum.Prod(a[i], g, 0)
		}
	}
	sum.Abs()
	return sum
}

// byLength is the symbol whose column goes furthest within the parts, all coordinates together; -1, if none goes anywhere, or one holds what is no number.
func byLength(columns [][]float64, parts []part) int {
	lengths := make([]*acc.Acc, len(parts))
	for s, p := range parts {
		lengths[s] = length(columns[s], p.level)
		if lengths[s].Bad() {
			return -1
		}
	}
	return greatestAboveNought(lengths)
}

// length is how far a column goes that was halved so often, all coordinates together, exactly.
func length(column []float64, level int) *acc.Acc {
	sum := acc.New()
	for _, g := range column {
		sum.Prod(math.Abs(g), 1, -level)
	}
	return sum
}

// greatestAboveNought is the place of the first of the greatest; -1, if none is above 0.
func greatestAboveNought(l []*acc.Acc) int {
	at := greatest(l)
	if at < 0 || l[at].Sign() <= 0 {
		return -1
	}
	return at
}

// An ordered thing stands below another one (-1), is the same (0) or stands above it (1); false, if the two can't be compared.
type ordered[T any] interface{ Cmp(other T) (int, bool) }

// greatest is the place of the first of the greatest of a list; -1, if that is empty.
func greatest[T ordered[T]](l []T) int {
	at := -1
	for i, x := range l {
		if at < 0 {
			at = i
		} else if order, ok := x.Cmp(l[at]); ok && order > 0 {
			at = i
		}
	}
	return at
}
