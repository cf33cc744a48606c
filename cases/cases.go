// Package cases is networks and questions for the tests of verdicts and of what leans on them, with exact sums of their claims; no layer leans on it. (Package samples can't have them: layers that they lean on are tested by it.)
package cases

import (
	"slices"

	"ambit/api"
	"ambit/samples"
)

// dense is a KDense with these numbers.
func dense(w, b []float64) api.Layer {
	return api.Layer{Kind: api.KDense, Out: len(b), W: w, B: b}
}

// line is a network of these layers over so many coordinates.
func line(width int, layers ...api.Layer) api.Net {
	return api.Net{In: samples.Line(width), Layers: layers}
}

// Asked is a question of further claims alone, with as much of every budget as may be.
func Asked(claims [][]float64, c []float64, g ...[]float64) api.Prop {
	return api.Prop{C: c, G: g, Target: -1, Claims: claims, K: api.MaxK, Depth: api.MaxDepth, Looks: api.MaxLooks}
}

// Unit is a question to one coordinate, from -1 to 1, with these claims and all budgets.
func Unit(claims ...[]float64) api.Prop { return Asked(claims, []float64{0}, []float64{1}) }

// Within is a question with these budgets.
func Within(p api.Prop, depth, looks int) api.Prop {
	p.Depth, p.Looks = depth, looks
	return p
}

// Example is the network and the question of the document's examples, with or without the further claim.
func Example(further bool) (api.Net, api.Prop) {
	n := line(2, dense([]float64{1, 1, 1, -1}, []float64{0, 0}))
	p := api.Prop{C: []float64{0.5, 0.25}, G: [][]float64{{1, 0}}, K: 2, Looks: 1}
	if further {
		p.Claims = [][]float64{{1, 0, 0}}
	}
	return n, p
}

// Bumps are a network over one coordinate, with an output each: 0 but near the places, where it has a bump of that height, and a quarter to either side.
func Bumps(height float64, places ...[]float64) api.Net {
	var w, b, sum []float64
	for _, at := range slices.Concat(places...) {
		w, b = append(w, 1, 1, 1), append(b, 0.25-at, -at, -0.25-at)
	}
	for row := range places {
		for other, l := range places {
			for range l {
				h := 4 * height
				if other != row {
					h = 0
				}
				sum = append(sum, h, -2*h, h)
			}
		}
	}
	return line(1, dense(w, b), samples.Relu(), dense(sum, make([]float64, len(places))))
}

// Kinks are a network over one coordinate that tells 0 everywhere; zonotopes lose something where a region has one of the places within.
func Kinks(places ...float64) api.Net {
	var w, b, sum []float64
	for _, at := range places {
		w, b, sum = append(w, 1, 1), append(b, -at, -at), append(sum, 1, -1)
	}
	return line(1, dense(w, b), samples.Relu(), dense(sum, []float64{0}))
}
