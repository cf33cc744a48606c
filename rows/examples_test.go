package rows

import (
	"testing"

	"ambit/api"
)

// 7.1
func TestExamplesOfKinds(t *testing.T) {
	if !Linear(api.KAdd) || Linear(api.KRelu) || !Bent(api.KMax) || Bent(0) {
		t.Error("Linear or Bent")
	}
}

// 7.3
func TestExamplesOfRows(t *testing.T) {
	dense := api.Layer{Kind: api.KDense, Out: 2, W: []float64{1, 2, 3, 4}, B: []float64{5, 6}}
	expectRow(t, dense, line(2), 1, []int{0, 1}, []float64{3, 4}, 6)

	conv := windowed(api.KConv, 2, 2, 1, 1, 1, 1)
	conv.W, conv.B = []float64{1, 2, 3, 4}, []float64{0}
	expectRow(t, conv, shape(1, 2, 2), 0, []int{0}, []float64{4}, 0)
	expectRow(t, conv, shape(1, 2, 2), 4, []int{0, 1, 2, 3}, []float64{1, 2, 3, 4}, 0)

	scale := api.Layer{Kind: api.KScale, W: []float64{2, 3}, B: []float64{0, 1}}
	expectRow(t, scale, shape(2, 1, 2), 3, []int{3}, []float64{3}, 1)

	mean := api.Layer{Kind: api.KMean, KH: 2, KW: 1, SH: 2, SW: 1, PH: 1, A: 0.5}
	expectRow(t, mean, shape(1, 3, 1), 0, []int{0}, []float64{0.5}, 0)
	expectRow(t, mean, shape(1, 3, 1), 1, []int{1, 2}, []float64{0.5, 0.5}, 0)

	turn := api.Layer{Kind: api.KTurn, Out: 1, Z: []complex128{1 + 2i}, ZB: []complex128{3 + 4i}}
	expectRow(t, turn, line(2), 0, []int{0, 1}, []float64{1, -2}, 3)
	expectRow(t, turn, line(2), 1, []int{0, 1}, []float64{2, 1}, 4)

	expectNoRow(t, api.Layer{Kind: api.KAdd}, line(2), 0, api.ErrKind)
	expectNoRow(t, api.Layer{Kind: api.KDense, Out: 1, W: []float64{1}, B: []float64{0}}, line(2), 9, api.ErrCount)
}

// 7.4
func TestExamplesOfWindows(t *testing.T) {
	most := windowed(api.KMax, 2, 2, 2, 2, 0, 0)
	expectWindow(t, most, shape(2, 2, 3), 1, 6, 7, 9, 10)
	expectNoWindow(t, most, shape(2, 2, 3), -1, api.ErrArg)
	expectNoWindow(t, api.Layer{Kind: api.KDense, Out: 1}, line(2), 0, api.ErrKind)
}
