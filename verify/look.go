package verify

import (
	"ambit/api"
	"ambit/flow"
	"ambit/margin"
	"ambit/split"
)

// An outcome is what comes of a look at a region.
type outcome int

// Outcomes.
const (
	unsettled outcome = iota
	settled           // every claim holds in all of it
	refuted           // a claim fails at one of its points
	stopped           // nobody looked
)

// A finding is an outcome, and what is to be told of it.
type finding struct {
	outcome outcome
	margin  float64 // settled: the least one; refuted: the gap
	claim   int     // refuted: which one fails
	ends    []int   // refuted: where
	symbol  int     // unsettled: by which it may be halved, or -1
	bad     int     // unsettled: the trace's Bad
}

// A cause is what is asked of regions. Workers share it, and only read it.
type cause struct {
	net    api.Net
	prop   api.Prop
	claims [][]float64
	done   <-chan struct{}
}

// look tells what is found at a region, by so many workers.
func (c cause) look(r api.Region, workers int) finding {
	if isClosed(c.done) {
		return finding{outcome: stopped}
	}
	// The network, the question and the workers were looked at, and r came by halving the cube: there is no error.
	trace, _ := flow.Push(c.net, c.prop, r, workers)
	z := trace.Z[len(c.net.Layers)]
	worst, low, ok := margin.Worst(z, c.claims)
	if ok && low > 0 {
		return finding{outcome: settled, margin: low}
	}
	// Where Worst tells none its place is 0: the first claim's.
	a := c.claims[worst]
	if f, ok := c.refute(r, margin.Signs(z, a, len(c.prop.G))); ok {
		return f
	}
	if f, ok := c.refute(r, make([]int, len(c.prop.G))); ok {
		return f
	}
	// The symbol is asked for here, so that no zonotope has to stay till its wave is through.
	return finding{outcome: unsettled, symbol: c.symbolToHalve(z, a, r), bad: trace.Bad}
}

// refute asks the point of a region at which its symbols have these signs.
func (c cause) refute(r api.Region, signs []int) (finding, bool) {
	claim, gap, ok := margin.Trial(c.net, c.prop, r, signs)
	if !ok {
		return finding{}, false
	}
	// No level is above how often the region was halved, and that is not above Depth: there is no error.
	ends, _ := split.Ends(r, signs, c.prop.Depth)
	return finding{outcome: refuted, margin: gap, claim: claim, ends: ends}, true
}

// symbolToHalve is the symbol by which a region may be halved once more; -1, if there is none, or its way is too long.
func (c cause) symbolToHalve(z api.Zono, a []float64, r api.Region) int {
	if way, _ := split.Way(r); way >= c.prop.Depth {
		return -1
	}
	return split.Choose(z, a, c.prop, r)
}

// isClosed tells whether done is closed, and waits for nothing.
func isClosed(done <-chan struct{}) bool {
	select {
	case <-done:
		return true
	default:
		return false
	}
}
