package walk

import (
	"ambit/api"
	"ambit/elem"
	"ambit/rows"
	"ambit/span"
)

// A way tells the span of one coordinate of a layer, of the spans ahead of it. The rest are the outputs so far, for a layer that hangs on an earlier one.
type way func(i int, ahead []api.Span, outputs ...[]api.Span) api.Span

// wayOf is what a layer's kind does with spans. The layer must be one that may be.
func wayOf(l api.Layer, in api.Shape) way {
	switch l.Kind {
	case api.KAdd:
		return sum(l.From)
	case api.KRelu, api.KLeaky:
		// A KRelu has an A too: 0.
		return alone(kink(l.A))
	case api.KTanh, api.KSigmoid:
		return alone(rise(l.Kind))
	case api.KSquare:
		return alone(span.Square)
	case api.KMax:
		return greatest(l, in)
	}
	return weighed(l, in)
}

// weighed is the way of the layers that have rows.
func weighed(l api.Layer, in api.Shape) way {
	return func(i int, ahead []api.Span, _ ...[]api.Span) api.Span {
		places, w, b, _ := rows.Row(l, in, i)
		// The bias goes into the same sum, so that each end is rounded once.
		return span.Dot(append(w, b), append(taken(ahead, places), span.Point(1)))
	}
}

// sum is the way of a layer that adds an output so far.
func sum(from int) way {
	return func(i int, ahead []api.Span, outputs ...[]api.Span) api.Span {
		return span.Add(ahead[i], outputs[from][i])
	}
}

// greatest is the way of a layer that tells the greatest one of a window.
func greatest(l api.Layer, in api.Shape) way {
	return func(i int, ahead []api.Span, _ ...[]api.Span) api.Span {
		places, _ := rows.Window(l, in, i)
		window := taken(ahead, places)
		most := window[0]
		// The first one is held against itself too: alone in a window it may still be bad, or have a nought with a sign.
		for _, s := range window {
			most = span.Max(most, s)
		}
		return most
	}
}

// alone is the way of a layer that makes each coordinate of one coordinate.
func alone(of func(s api.Span) api.Span) way {
	return func(i int, ahead []api.Span, _ ...[]api.Span) api.Span { return of(ahead[i]) }
}

// kink goes through 0 with one slope below it, from 0 to 1, and the slope 1 above it: so it tells the greater one of x and the slope times x.
func kink(below float64) func(s api.Span) api.Span {
	return func(s api.Span) api.Span { return span.Max(s, span.Mul(span.Point(below), s)) }
}

// rise is one of the two functions that elem knows.
func rise(kind int) func(s api.Span) api.Span {
	return func(s api.Span) api.Span { return elem.Of(kind, s) }
}

// taken are the spans at some places.
func taken(v []api.Span, places []int) []api.Span {
	all := make([]api.Span, len(places))
	for k, j := range places {
		all[k] = v[j]
	}
	return all
}
