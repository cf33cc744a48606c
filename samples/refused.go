package samples

import (
	"math"
	"slices"

	"ambit/api"
	"ambit/oracle"
)

// A Refused is a network that model refuses, with the error and the place.
type Refused struct {
	Net api.Net
	Err api.Errno
	At  int
}

// RefusedNets are such networks, each for another reason.
func RefusedNets() []Refused {
	one, relu, nan := Line(1), Relu(), math.NaN()
	of := func(in api.Shape, layers ...api.Layer) api.Net { return api.Net{In: in, Layers: layers} }
	dense := func(b float64, w ...float64) api.Layer {
		return api.Layer{Kind: api.KDense, Out: 1, W: w, B: []float64{b}}
	}
	heavy := Filled(Dense(256), Line(256))
	return []Refused{
		{of(api.Shape{}), api.ErrShape, 0}, {of(Shape(1, 1, 257)), api.ErrShape, 0}, {of(Shape(-1, 1, -1), relu), api.ErrShape, 0},
		{of(one, slices.Repeat([]api.Layer{relu}, 65)...), api.ErrSize, 0},
		{of(one, relu, api.Layer{}), api.ErrKind, 2}, {of(one, api.Layer{Kind: 13}), api.ErrKind, 1},
		{of(one, relu, relu, Leaky(1.5)), api.ErrField, 3}, {of(one, api.Layer{Kind: api.KRelu, A: oracle.MinusZero()}), api.ErrField, 1},
		{of(one, Turn(1)), api.ErrShape, 1}, {of(one, dense(1, 2, 3)), api.ErrCount, 1}, {of(one, relu, dense(1, nan)), api.ErrNumber, 2}, {of(one, Leaky(nan)), api.ErrNumber, 1},
		{of(one, relu, Add(2)), api.ErrFrom, 2}, {of(Line(256), heavy, heavy), api.ErrSize, 1},
		{Named(of(one, relu), "a", "b"), api.ErrCount, 0}, {Named(of(one, relu), ""), api.ErrName, 0}, {Named(of(Line(2)), "a", "a"), api.ErrName, 0},
	}
}
