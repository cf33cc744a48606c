package lin

import (
	"math"

	"ambit/acc"
	"ambit/api"
)

// A row is a sum of some coordinates, those at cols, each times its number in w, and b.
type row struct {
	cols []int
	w    []float64
	b    float64
}

// fullRow is the row that takes every coordinate.
func fullRow(w []float64, b float64) row {
	cols := make([]int, len(w))
	for j := range cols {
		cols[j] = j
	}
	return row{cols, w, b}
}

// An image is what a row makes of a zonotope: a centre, a number of each column, and how far the box goes; all of it is 0, if ok is false.
type image struct {
	c  float64
	g  []float64
	r  float64
	ok bool
}

// over is the image of a zonotope that has the row's coordinates. What is no number in the row makes the centre's sum bad, and so there is no image.
func (s row) over(z api.Zono) image {
	lost := s.reach(z.R)
	v := s.sum(z.C)
	v.Add(s.b)
	c, ok := settle(v, lost)
	if !ok {
		return image{}
	}
	g := make([]float64, len(z.G))
	for k, column := range z.G {
		if g[k], ok = settle(s.sum(column), lost); !ok {
			return image{}
		}
	}
	r, ok := lost.Round(api.Up)
	if !ok {
		return image{}
	}
	return image{c, g, r, true}
}

// sum is the exact sum that the row makes of a list, without b.
func (s row) sum(l []float64) *acc.Acc {
	v := acc.New()
	for k, j := range s.cols {
		v.Prod(s.w[k], l[j], 0)
	}
	return v
}

// reach is how far the row goes, exactly, if each coordinate goes as far as r says.
func (s row) reach(r []float64) *acc.Acc {
	v := acc.New()
	for k, j := range s.cols {
		v.Prod(math.Abs(s.w[k]), r[j], 0)
	}
	return v
}

// settle is the number nearest to v. What that rounding takes or gives is added to lost, and is all that is left in v.
func settle(v, lost *acc.Acc) (float64, bool) {
	a, ok := v.Round(api.Near)
	v.Add(-a)
	v.Abs()
	lost.Join(v, false)
	return a, ok
}
