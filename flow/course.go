package flow

import (
	"slices"

	"ambit/act"
	"ambit/api"
	"ambit/lin"
	"ambit/trim"
	"ambit/zono"
)

// A course is a region's way through a network, as far as it went.
type course struct {
	layers  []api.Layer
	shapes  []api.Shape // of the input and of each layer's output
	columns int         // so many a coordinate may be behind a layer
	workers int
	trace   api.Trace
}

// A way is what is done with a layer: it tells what the layer behind the output of that number makes of it.
type way func(ahead int) api.Zono

// wayOf is the way of a layer's kind.
func (c *course) wayOf(kind int) way {
	switch kind {
	case api.KAdd:
		return c.added
	case api.KDense, api.KConv, api.KScale, api.KMean, api.KTurn:
		return c.weighed
	}
	return c.bent
}

// added is the way of the layer that adds an output so far.
func (c *course) added(ahead int) api.Zono {
	return zono.Plus(c.trace.Z[ahead], c.trace.Z[c.layers[ahead].From])
}

// weighed is the way of the layers that have rows.
func (c *course) weighed(ahead int) api.Zono {
	// The network was looked at, and so were the workers: there is no error.
	z, _ := lin.Step(c.trace.Z[ahead], c.layers[ahead], c.shapes[ahead], c.workers)
	return z
}

// bent is the way of the bent layers.
func (c *course) bent(ahead int) api.Zono {
	return act.Step(c.trace.Z[ahead], c.layers[ahead], c.shapes[ahead])
}

// run goes through all layers. What is bad stays so by itself: every way tells the bad one of its coordinates then.
func (c *course) run(start api.Zono) {
	defer c.noteBad()
	c.keep(start)
	for ahead, l := range c.layers {
		told := c.wayOf(l.Kind)
		z := told(ahead)
		c.keep(trim.Reduce(z, trim.Cap(c.columns, z.N)))
	}
}

// keep puts the next zonotope into the trace, with columns in place of its box.
func (c *course) keep(z api.Zono) {
	lifted, next := zono.Lift(z, c.trace.Next)
	c.trace.Z, c.trace.Next = append(c.trace.Z, lifted), next
}

// noteBad notes which of the zonotopes kept is the first bad one.
func (c *course) noteBad() {
	c.trace.Bad = slices.IndexFunc(c.trace.Z, func(z api.Zono) bool { return z.Bad })
}
