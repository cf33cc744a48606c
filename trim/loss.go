package trim

import (
	"cmp"
	"math"
	"slices"

	"ambit/acc"
	"ambit/api"
)

// byLoss are the places of z's columns, that of the least loss first.
func byLoss(z api.Zono) []int {
	places, losses := make([]int, len(z.G)), make([]*acc.Acc, len(z.G))
	for k, g := range z.G {
		places[k], losses[k] = k, loss(g)
	}
	slices.SortFunc(places, func(a, b int) int {
		if order, _ := losses[a].Cmp(losses[b]); order != 0 {
			return order
		}
		// Ids rise with their places.
		return cmp.Compare(a, b)
	})
	return places
}

// loss is what a column's loss is, exactly.
func loss(g []float64) *acc.Acc {
	x, greatest := acc.New(), 0.0
	for _, a := range g {
		x.Add(math.Abs(a))
		greatest = max(greatest, math.Abs(a))
	}
	x.Add(-greatest)
	return x
}

// Columns, each with its number.
type columns struct {
	ids []int
	g   [][]float64
}

func (c *columns) take(id int, g []float64) {
	c.ids, c.g = append(c.ids, id), append(c.g, g)
}

// parted are the columns that go, so many of the first by loss (none, if that is below 0), and those that stay, both in their order. Their numbers are z's own memory.
func parted(z api.Zono, many int) (gone, kept columns) {
	goes := make([]bool, len(z.Ids))
	if many > 0 {
		for _, k := range byLoss(z)[:many] {
			goes[k] = true
		}
	}
	for k, id := range z.Ids {
		if goes[k] {
			gone.take(id, z.G[k])
		} else {
			kept.take(id, z.G[k])
		}
	}
	return gone, kept
}
