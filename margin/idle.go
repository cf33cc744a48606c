package margin

import (
	"math"
	"slices"

	"ambit/api"
	"ambit/model"
	"ambit/point"
	"ambit/rows"
)

// A reach is, of each coordinate of an output, how far it goes from 0 at most, and how far off a zonotope of it may be (S and T of the chapter).
type reach struct{ far, off []api.Dyad }

// blur is how great the least sums of a question's claims must be so that a zonotope of the whole cube shows them. It gives up, where that is not known.
func blur(n api.Net, p api.Prop) api.Dyad {
	shapes := shapesOf(n, p)
	outputs, columns := []reach{inputReach(p)}, len(p.G)
	for m, l := range n.Layers {
		next := reachBehind(l, shapes[m], outputs, columns)
		outputs, columns = append(outputs, next), columns+len(next.far)
	}
	return greatestBlur(p, outputs[len(n.Layers)])
}

// shapesOf are the shapes of the network's outputs. It gives up, if the network or the question may not be, or a layer is bent, or a column might be trimmed behind one.
func shapesOf(n api.Net, p api.Prop) []api.Shape {
	shapes, e, _ := model.Shapes(n)
	if e != api.OK {
		giveUp()
	}
	widths := make([]int, len(shapes))
	for m, s := range shapes {
		widths[m], _ = model.Size(s)
	}
	last := len(n.Layers)
	if e, _ := model.CheckProp(p, widths[0], widths[last]); e != api.OK {
		giveUp()
	}
	bent := func(l api.Layer) bool { return rows.Bent(l.Kind) }
	if slices.ContainsFunc(n.Layers, bent) || mightTrim(len(p.G), p.K, widths[1:]) {
		giveUp()
	}
	return shapes
}

// mightTrim tells whether a column might be trimmed behind layers of these widths, with k symbols: each layer makes at most as many new columns as it is wide, and a column a coordinate is kept free for those.
func mightTrim(k, most int, widths []int) bool {
	columns := k
	for _, width := range widths {
		if columns > (most-1)*width {
			return true
		}
		columns += width
	}
	return false
}

// inputReach is the reach of the input: of it nothing is off.
func inputReach(p api.Prop) reach {
	n := len(p.C)
	ones := slices.Repeat([]api.Dyad{numberOf(1)}, len(p.G))
	r := reach{make([]api.Dyad, n), make([]api.Dyad, n)}
	for i, c := range p.C {
		column := make([]float64, len(p.G))
		for s, g := range p.G {
			column[s] = g[i]
		}
		r.far[i] = sizes(column, c).over(ones)
	}
	return r
}

// reachBehind is the reach behind a layer, of those of all outputs ahead of it; so many columns they have at most.
func reachBehind(l api.Layer, in api.Shape, outputs []reach, columns int) reach {
	n, _ := rows.Count(l, in)
	r := reach{make([]api.Dyad, n), make([]api.Dyad, n)}
	for i := range n {
		w, read := rowOf(l, in, i, outputs)
		r.far[i], r.off[i] = w.reached(read, columns)
	}
	return r
}

// rowOf is what the i-th coordinate of a layer is made of: its row, and the reach of what it reads.
func rowOf(l api.Layer, in api.Shape, i int, outputs []reach) (row, reach) {
	ahead := outputs[len(outputs)-1]
	if l.Kind == api.KAdd {
		from := outputs[l.From]
		return sizes([]float64{1, 1}, 0), reach{[]api.Dyad{ahead.far[i], from.far[i]}, []api.Dyad{ahead.off[i], from.off[i]}}
	}
	places, w, b, _ := rows.Row(l, in, i)
	return sizes(w, b), reach{taken(ahead.far, places), taken(ahead.off, places)}
}

// taken are the exact numbers at some places.
func taken(l []api.Dyad, places []int) []api.Dyad {
	all := make([]api.Dyad, len(places))
	for k, j := range places {
		all[k] = l[j]
	}
	return all
}

// A row is the sizes of some weights, without their signs, and that of the number beside them.
type row struct {
	w []float64
	b float64
}

// sizes is the row of some weights and the number beside them.
func sizes(w []float64, b float64) row {
	r := row{make([]float64, len(w)), math.Abs(b)}
	for i, a := range w {
		r.w[i] = math.Abs(a)
	}
	return r
}

// over is the exact sum of the row over a list.
func (r row) over(l []api.Dyad) api.Dyad {
	return sure(point.Claim(append(slices.Clone(r.w), r.b), l))
}

// reached is how far a coordinate with this row goes, and how far off it may be, if a zonotope of so many columns was ahead. It gives up, if it goes too far.
func (r row) reached(read reach, columns int) (far, off api.Dyad) {
	most := r.over(read.far)
	// Each rounding is off by some 2^-53 of what it rounds, and by 2^-1075 where numbers are least.
	least := math.Ldexp(float64(columns+2), -1073)
	lost := row{[]float64{0x1p-51}, least}.over([]api.Dyad{most})
	far = bounded(sure(point.Add(most, lost)))
	off = sure(point.Add(row{r.w, 0}.over(read.off), lost))
	return far, off
}

// bounded is x. It gives up, if that goes so far that a rounding might tell no number.
func bounded(x api.Dyad) api.Dyad {
	if isAbove(x, numberOf(0x1p1000)) {
		giveUp()
	}
	return x
}

// greatestBlur is how far off the sum of a claim may be at most, over all claims, with what the margin's own rounding takes. It gives up, if a claim's sum goes too far.
func greatestBlur(p api.Prop, last reach) api.Dyad {
	var most api.Dyad
	// The question was looked at: there is no error.
	claims, _ := Claims(p, len(last.far))
	for _, a := range claims {
		n := len(a) - 1
		r := sizes(a[:n], a[n])
		bounded(r.over(last.far))
		off := row{r.w, 0x1p-1074}.over(last.off)
		if isAbove(off, most) {
			most = off
		}
	}
	return most
}

// numberOf is the exact number of a number.
func numberOf(a float64) api.Dyad {
	x, _ := point.Of(a)
	return x
}

func isAbove(x, y api.Dyad) bool {
	c, _ := point.Cmp(x, y)
	return c > 0
}

// sure is an exact number that must be there: as few layers as let all columns stay make none that is too long. Were there one, nothing would be known.
func sure(x api.Dyad, e api.Errno) api.Dyad {
	if e != api.OK {
		giveUp()
	}
	return x
}
