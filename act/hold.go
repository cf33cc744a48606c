package act

import (
	"math"
	"slices"

	"ambit/acc"
	"ambit/api"
	"ambit/rows"
	"ambit/span"
)

// A hold says where a coordinate told lies: slope times the input's coordinate at a place, and something in rest.
type hold struct {
	place int
	slope float64
	rest  api.Span
}

// holdsOf are the holds of all coordinates that a bent layer tells, over the spans of its input.
func holdsOf(l api.Layer, in api.Shape, s []api.Span) []hold {
	if slices.ContainsFunc(s, func(one api.Span) bool { return one.Bad }) {
		giveUp()
	}
	n, _ := rows.Count(l, in)
	all := make([]hold, n)
	for i := range all {
		if l.Kind == api.KMax {
			places, _ := rows.Window(l, in, i)
			all[i] = greatest(s, places)
		} else {
			slope, rest := bent(l, s[i])
			all[i] = hold{i, slope, rest}
		}
	}
	return all
}

// greatest is the hold of the greatest one of some coordinates: that of the first one that is nowhere below another, if there is such a one; else where the greatest one may lie, and no more.
func greatest(s []api.Span, places []int) hold {
	for _, k := range places {
		if !slices.ContainsFunc(places, func(j int) bool { return j != k && s[k].Lo < s[j].Hi }) {
			return hold{place: k, slope: 1}
		}
	}
	h := hold{place: places[0], rest: s[places[0]]}
	for _, k := range places {
		h.rest = span.Max(h.rest, s[k])
	}
	return h
}

// held is the zonotope of the coordinates that are held by those of z.
func held(z api.Zono, all []hold) api.Zono {
	n := len(all)
	y := api.Zono{N: n, C: make([]float64, n), R: make([]float64, n)}
	boxes := make([]*acc.Acc, n)
	for i, h := range all {
		boxes[i] = h.box(z.R)
		y.C[i] = settle(h.centre(z.C), boxes[i])
	}
	for k, id := range z.Ids {
		g := make([]float64, n)
		for i, h := range all {
			g[i] = settle(h.scaled(z.G[k]), boxes[i])
		}
		// What was rounded to 0 is in the box: so nothing is lost with a column of noughts.
		if slices.ContainsFunc(g, func(a float64) bool { return a != 0 }) {
			y.Ids, y.G = append(y.Ids, id), append(y.G, g)
		}
	}
	for i, box := range boxes {
		y.R[i] = must(box.Round(api.Up))
	}
	return y
}

// scaled is slope times the number at the hold's place, exactly.
func (h hold) scaled(l []float64) *acc.Acc {
	v := acc.New()
	v.Prod(h.slope, l[h.place], 0)
	return v
}

// centre is the middle of all that the hold makes of a centre, exactly.
func (h hold) centre(c []float64) *acc.Acc {
	v := h.scaled(c)
	v.Prod(h.rest.Lo, 1, -1)
	v.Prod(h.rest.Hi, 1, -1)
	return v
}

// box is how far the hold goes from there, exactly, if each coordinate goes as far as r says.
func (h hold) box(r []float64) *acc.Acc {
	v := acc.New()
	v.Prod(math.Abs(h.slope), r[h.place], 0)
	v.Prod(h.rest.Hi, 1, -1)
	v.Prod(h.rest.Lo, -1, -1)
	return v
}

// settle is the number nearest to v. What that rounding takes or gives is added to the box, and is all that is left in v.
func settle(v, box *acc.Acc) float64 {
	a := must(v.Round(api.Near))
	v.Add(-a)
	v.Abs()
	box.Join(v, false)
	return a
}
