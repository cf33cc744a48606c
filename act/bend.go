package act

import (
	"ambit/acc"
	"ambit/api"
	"ambit/elem"
	"ambit/span"
)

// A bender tells, of a good span, a slope, and a span of what is left of a function there without the slope's line.
type bender func(s api.Span) (slope float64, rest api.Span)

// benderOf is what bends a coordinate; nil, if the layer is none that does, or may not be.
func benderOf(l api.Layer) bender {
	switch l.Kind {
	case api.KRelu:
		return kink(0)
	case api.KLeaky:
		if l.A >= 0 && l.A <= 1 {
			return kink(l.A)
		}
	case api.KTanh, api.KSigmoid:
		return rise(l.Kind)
	case api.KSquare:
		return square
	}
	return nil
}

// bent is what a layer's bender tells of a span.
func bent(l api.Layer, s api.Span) (slope float64, rest api.Span) {
	bend := benderOf(l)
	// Just the good spans lie inside anything.
	if bend == nil || !span.Inside(s, s) {
		giveUp()
	}
	return bend(s)
}

// kink bends what goes through 0 with one slope below it and the slope 1 above it.
func kink(below float64) bender {
	return func(s api.Span) (float64, api.Span) {
		switch {
		case s.Hi <= 0:
			return must(acc.Sum(api.Near, below)), api.Span{}
		case s.Lo >= 0:
			return 1, api.Span{}
		}
		up, along := acc.New(), acc.New()
		up.Add(s.Hi)
		up.Prod(-below, s.Lo, 0)
		along.Add(s.Hi)
		along.Add(-s.Lo)
		slope := must(up.Over(api.Near, along))
		return slope, api.Span{Hi: max(left(1, slope, s.Hi), left(below, slope, s.Lo))}
	}
}

// rise bends the two functions that elem knows. No slope of theirs over the span is less than the one taken, so that what is left rises: it is least at the one end and greatest at the other.
func rise(kind int) bender {
	return func(s api.Span) (float64, api.Span) {
		slope, value := must(elem.Least(kind, s)), elem.Of(kind, s)
		lo := must(acc.Dot(api.Down, []float64{value.Lo, -slope}, []float64{1, s.Lo}))
		hi := must(acc.Dot(api.Up, []float64{value.Hi, -slope}, []float64{1, s.Hi}))
		return slope, api.Span{Lo: lo, Hi: hi}
	}
}

// square bends x squared: what is left is least at half of the slope, which lies in the span.
func square(s api.Span) (float64, api.Span) {
	slope := must(acc.Sum(api.Near, s.Lo, s.Hi))
	least := acc.New()
	least.Prod(-slope, slope, -2)
	lo := must(least.Round(api.Down))
	return slope, api.Span{Lo: lo, Hi: max(left(s.Lo, slope, s.Lo), left(s.Hi, slope, s.Hi))}
}

// left is the least number that is not below (factor - slope) x. (Of the greater one of two reals it is the greater number.)
func left(factor, slope, x float64) float64 {
	return must(acc.Dot(api.Up, []float64{factor, -slope}, []float64{x, x}))
}
