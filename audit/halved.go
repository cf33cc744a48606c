package audit

import (
	"math"
	"slices"

	"ambit/api"
	"ambit/flow"
	"ambit/margin"
	"ambit/split"
	"ambit/wire"
)

// hands is how many workers an account is made by; every number of them tells the same.
const hands = 8

// A cause is a network and a question to it, with the question's claims.
type cause struct {
	net    api.Net
	prop   api.Prop
	claims [][]float64
}

// cube is the whole of it.
func (c cause) cube() api.Region {
	cube, _ := split.Whole(len(c.prop.G))
	return cube
}

// A sight is what a region's last zonotope tells.
type sight struct {
	z      api.Zono
	worst  int // the claim with the least margin, or the first one, if no margin is told
	margin float64
	proven bool // the margin is told, and above 0
}

// look pushes a region through the network, by so many workers.
func (c cause) look(r api.Region, workers int) sight {
	// The network and the question were looked at, and r came by halving the cube: there is no error.
	trace, _ := flow.Push(c.net, c.prop, r, workers)
	z := trace.Z[len(c.net.Layers)]
	// Of a bad zonotope Worst tells nothing.
	worst, low, ok := margin.Worst(z, c.claims)
	return sight{z, worst, low, ok && low > 0}
}

// leastMargin is the least margin of some regions; false, if one of them is not proven.
func (c cause) leastMargin(parts []api.Region) (float64, bool) {
	least := math.MaxFloat64
	for _, r := range parts {
		s := c.look(r, 1)
		if !s.proven {
			return 0, false
		}
		least = min(least, s.margin)
	}
	return least, true
}

// A spot tells a region from all others: the level and the place of each symbol, and noughts behind the last. Two arrays are compared as values, which lists are not.
type spot [api.MaxSymbols][2]uint8

func spotOf(r api.Region) spot {
	var of spot
	for s, level := range r.Level {
		of[s] = [2]uint8{uint8(level), uint8(r.At[s])}
	}
	return of
}

// halvings are regions that were halved, each with the symbol.
type halvings map[spot]int

// replay goes from wave to wave once more, as a robust verdict did: nothing stayed open, so that each region that is not proven was halved.
func (c cause) replay() halvings {
	halved := halvings{}
	for wave := []api.Region{c.cube()}; len(wave) > 0; {
		var next []api.Region
		for _, r := range wave {
			s := c.look(r, hands)
			if s.proven {
				continue
			}
			symbol := split.Choose(s.z, c.claims[s.worst], c.prop, r)
			lower, upper, _ := split.Halve(r, symbol)
			halved[spotOf(r)] = symbol
			next = append(next, lower, upper)
		}
		wave = next
	}
	return halved
}

// tree is the tree over a region.
func (h halvings) tree(over api.Region) []byte {
	symbol, halved := h[spotOf(over)]
	if !halved {
		return []byte{0}
	}
	lower, upper, _ := split.Halve(over, symbol)
	name, _ := wire.Uint(1 + symbol)
	return slices.Concat(name, h.tree(lower), h.tree(upper))
}
