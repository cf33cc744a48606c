package samples

import (
	"math"
	"slices"

	"ambit/api"
	"ambit/oracle"
)

// A Refused is a network that model refuses, with the error and the place.
type Refused struct {
	Net api.Net
	Err api.Errno
	At  int
}

// RefusedNets are such networks, each for another reason.
func RefusedNets() []Refused {
	one, relu, nan := Line(1), Relu(), math.NaN()
	of := func(in api.Shape, layers ...api.Layer) api.Net { return api.Net{In: in, Layers: layers} }
	dense := func(b float64, w ...float64) api.Layer {
		return api.Layer{Kind: api.KDense, Out: 1, W: w, B: []float64{b}}
	}
	heavy := Filled(Dense(256), Line(256))
	return []Refused{
		{of(api.Shape{}), api.ErrShape, 0}, {of(Shape(1, 1, 257)), api.ErrShape, 0}, {of(Shape(-1, 1, -1), relu), api.ErrShape, 0},
		{of(one, slices.Repeat([]api.Layer{relu}, 65)...), api.ErrSize, 0},
		{of(one, relu, api.Layer{}), api.ErrKind, 2}, {of(one, api.Layer{Kind: 13}), api.ErrKind, 1},
		{of(one, relu, relu, Leaky(1.5)), api.ErrField, 3}, {of(one, api.Layer{Kind: api.KRelu, A: oracle.MinusZero()}), api.ErrField, 1},
		{of(one, Turn(1)), api.ErrShape, 1}, {of(one, dense(1, 2, 3)), api.ErrCount, 1}, {of(one, relu, dense(1, nan)), api.ErrNumber, 2}, {of(one, Leaky(nan)), api.ErrNumber, 1},
		{of(one, relu, Add(2)), api.ErrFrom, 2}, {of(Line(256), heavy, heavy), api.ErrSize, 1},
		{Named(of(one, relu), "a", "b"), api.ErrCount, 0}, {Named(of(one, relu), ""), api.ErrName, 0}, {Named(of(Line(2)), "a", "a"), api.ErrName, 0},
	}
}

// A RefusedProp is a question that model refuses, with the error.
type RefusedProp struct {
	Prop api.Prop
	Err  api.Errno
}

// RefusedProps are such questions to a network of 3 input and 4 output coordinates, each for another reason.
func RefusedProps() []RefusedProp {
	var all []RefusedProp
	refuse := func(e api.Errno, change func(p *api.Prop)) {
		p := Question()
		change(&p)
		all = append(all, RefusedProp{p, e})
	}
	for _, n := range []int{0, 2, 4, 256} {
		refuse(api.ErrCount, func(p *api.Prop) { p.C = Ones(n) })
		refuse(api.ErrCount, func(p *api.Prop) { p.G[4] = Ones(n) })
	}
	for _, n := range []int{0, 4, 6} {
		refuse(api.ErrCount, func(p *api.Prop) { p.Claims[2] = Ones(n) })
	}
	for _, a := range oracle.NoNumbers() {
		refuse(api.ErrNumber, func(p *api.Prop) { p.C[2] = a })
		refuse(api.ErrNumber, func(p *api.Prop) { p.G[0][1] = a })
		refuse(api.ErrNumber, func(p *api.Prop) { p.Claims[0][4] = a })
	}
	refuse(api.ErrSize, func(p *api.Prop) { p.G = Columns(257, 3) })
	refuse(api.ErrSize, func(p *api.Prop) { p.Claims = Columns(65, 5) })
	for _, target := range []int{-2, 4, 256, math.MaxInt, math.MinInt} {
		refuse(api.ErrTarget, func(p *api.Prop) { p.Target = target })
	}
	refuse(api.ErrTarget, func(p *api.Prop) { p.Target, p.Claims = -1, nil })
	for _, n := range []int{-1, 1025, math.MaxInt, math.MinInt} {
		refuse(api.ErrBudget, func(p *api.Prop) { p.K = n })
		refuse(api.ErrBudget, func(p *api.Prop) { p.Depth = n })
		refuse(api.ErrBudget, func(p *api.Prop) { p.Looks = n })
	}
	refuse(api.ErrBudget, func(p *api.Prop) { p.K = 0 })
	refuse(api.ErrBudget, func(p *api.Prop) { p.K = 9 })
	refuse(api.ErrBudget, func(p *api.Prop) { p.Depth = 9 })
	refuse(api.ErrBudget, func(p *api.Prop) { p.Looks = 0 })
	return all
}
