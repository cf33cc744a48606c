package point

import (
	"ambit/api"
	"ambit/model"
	"ambit/rows"
)

// A course is a network's outputs at a point, the input ahead, as far as they are told.
type course struct {
	layers  []api.Layer
	shapes  []api.Shape
	outputs [][]exact
}

// layer is the one that is told next.
func (c *course) layer() int { return len(c.outputs) }

// ahead is the last output so far.
func (c *course) ahead() []exact { return c.outputs[len(c.outputs)-1] }

// last is the output of the last layer. It gives up at the first layer that tells what is too long.
func (c *course) last() []api.Dyad {
	for m, l := range c.layers {
		n, _ := model.Size(c.shapes[m+1])
		out := make([]exact, n)
		for i := range out {
			out[i] = c.coordinate(l, c.shapes[m], i).small()
		}
		c.outputs = append(c.outputs, out)
	}
	var y []api.Dyad
	for _, v := range c.ahead() {
		y = append(y, v.dyad())
	}
	return y
}

// coordinate is the i-th one that the next layer tells.
func (c *course) coordinate(l api.Layer, in api.Shape, i int) exact {
	v := c.ahead()
	switch l.Kind {
	case api.KAdd:
		return v[i].plus(c.outputs[l.From][i])
	case api.KRelu, api.KLeaky:
		return kinked(l.A, v[i])
	case api.KSquare:
		return v[i].times(v[i])
	case api.KMax:
		places, _ := rows.Window(l, in, i)
		return greatest(taken(v, places))
	}
	places, w, b, _ := rows.Row(l, in, i)
	return weighed(w, taken(v, places), b)
}

// taken are the coordinates at some places.
func taken(v []exact, places []int) []exact {
	all := make([]exact, len(places))
	for k, j := range places {
		all[k] = v[j]
	}
	return all
}

// kinked is v, if it is above 0, else v times a number: a KRelu's A is 0.
func kinked(a float64, v exact) exact {
	if v.sign() > 0 {
		return v
	}
	return weighed([]float64{a}, []exact{v}, 0)
}

// greatest is the greatest one of some.
func greatest(l []exact) exact {
	most := l[0]
	for _, v := range l {
		if v.minus(most).sign() > 0 {
			most = v
		}
	}
	return most
}
