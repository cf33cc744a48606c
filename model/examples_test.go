package model

import (
	"math"
	"testing"

	"ambit/api"
	"ambit/oracle"
)

// 6.1
func TestExamplesOfSize(t *testing.T) {
	for _, c := range []struct {
		s api.Shape
		n int
		e api.Errno
	}{
		{shape(3, 4, 5), 60, api.OK},
		{shape(1, 1, 257), 0, api.ErrShape},
		{shape(1<<40, 1<<40, 1<<40), 0, api.ErrShape},
		{shape(1, 0, 1), 0, api.ErrShape},
	} {
		if n, e := Size(c.s); n != c.n || e != c.e {
			t.Errorf("Size(%v): %d %v, not %d %v", c.s, n, e, c.n, c.e)
		}
	}
}

// 6.2
func TestExamplesOfOut(t *testing.T) {
	conv := window(api.KConv, 2, 2, 1, 1, 1, 0)
	conv.Out = 2
	expectShape(t, conv, shape(1, 2, 3), shape(2, 3, 2), api.OK)
	expectShape(t, window(api.KMax, 3, 1, 5, 9, 0, 0), shape(2, 4, 3), shape(2, 1, 1), api.OK)
	expectShape(t, window(api.KMax, 2, 2, 1, 1, 2, 0), shape(1, 4, 4), api.Shape{}, api.ErrField)
	expectShape(t, window(api.KMax, 5, 1, 1, 1, 0, 0), shape(1, 4, 4), api.Shape{}, api.ErrShape)
	expectShape(t, api.Layer{Kind: api.KTurn, Out: 1}, line(3), api.Shape{}, api.ErrShape)
	expectShape(t, api.Layer{Kind: api.KRelu, A: oracle.MinusZero()}, line(1), api.Shape{}, api.ErrField)
	expectShape(t, api.Layer{Kind: 13, Out: -1}, api.Shape{}, api.Shape{}, api.ErrKind)
	expectShape(t, api.Layer{Kind: api.KLeaky, A: math.NaN()}, line(1), api.Shape{}, api.ErrNumber)
	expectShape(t, api.Layer{Kind: api.KLeaky, A: 1.5}, line(1), api.Shape{}, api.ErrField)
	expectShape(t, api.Layer{Kind: api.KRelu, A: math.NaN()}, line(1), api.Shape{}, api.ErrField)
}

// 6.3
func TestExampleOfLists(t *testing.T) {
	conv := window(api.KConv, 2, 2, 1, 1, 0, 0)
	conv.Out = 2
	w, b, z, zb, e := Lists(conv, shape(3, 2, 2))
	if w != 24 || b != 2 || z != 0 || zb != 0 || e != api.OK {
		t.Errorf("Lists: %d %d %d %d %v", w, b, z, zb, e)
	}
}

// 6.4, 6.5
func TestExamplesOfCheck(t *testing.T) {
	expectNet(t, api.Net{In: line(2), Names: []string{"a", "a"}}, api.ErrName, 0)
	expectNet(t, api.Net{In: line(2), Names: []string{"a"}}, api.ErrCount, 0)
	expectNet(t, api.Net{In: line(2), Layers: []api.Layer{relu(), add(2)}}, api.ErrFrom, 2)
}

// 6.8
func TestExamplesOfCheckProp(t *testing.T) {
	p := api.Prop{C: []float64{0, 0}, K: 1, Looks: 1}
	expectProp(t, p, 2, 1, api.ErrTarget, 0)
	expectProp(t, p, 2, 2, api.OK, 0)
	expectProp(t, api.Prop{C: []float64{0}, G: [][]float64{{1}, {1, 2}}}, 1, 2, api.ErrCount, 2)
}
