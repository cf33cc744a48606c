package rows

import (
	"slices"
	"testing"

	"ambit/api"
	"ambit/model"
	"ambit/oracle"
)

// The document's table once more, term by term: each sum's terms are laid into a whole row of the input's coordinates, where nothing was laid there is nothing.

// A term is a number times a coordinate of the input.
type term struct {
	there bool
	w     float64
}

// find is where a place stands among the coordinates; -1, if it lies outside.
func find(s api.Shape, c, y, x int) int { return slices.Index(oracle.Coordinates(s), [3]int{c, y, x}) }

// laid is the whole row of the i-th coordinate, and what stands beside.
func laid(l api.Layer, in, out api.Shape, i int) ([]term, float64) {
	n := len(oracle.Coordinates(in))
	whole := make([]term, n)
	at := oracle.Coordinates(out)[i]
	switch l.Kind {
	case api.KDense:
		for j := range n {
			whole[j] = term{true, l.W[i*n+j]}
		}
		return whole, l.B[i]
	case api.KScale:
		whole[i] = term{true, l.W[at[0]]}
		return whole, l.B[at[0]]
	case api.KConv:
		layWindow(whole, l, in, at)
		return whole, l.B[at[0]]
	case api.KMean, api.KMax:
		layWindow(whole, l, in, at)
		return whole, 0
	}
	z := l.ZB[i/2]
	for j := range n / 2 {
		u := l.Z[(i/2)*(n/2)+j]
		if i%2 == 0 {
			whole[2*j] = term{true, real(u)}
			whole[2*j+1] = term{true, api.Float(api.Bits(imag(u)) ^ api.Bits(oracle.MinusZero()))}
		} else {
			whole[2*j] = term{true, imag(u)}
			whole[2*j+1] = term{true, real(u)}
		}
	}
	if i%2 == 0 {
		return whole, real(z)
	}
	return whole, imag(z)
}

// layWindow goes through a whole window, and leaves out what lies outside. Where the lists are not as they must be, the numbers are left out.
func layWindow(whole []term, l api.Layer, in api.Shape, at [3]int) {
	for c := range in.C {
		for p := range l.KH {
			for q := range l.KW {
				place := find(in, c, at[1]*l.SH-l.PH+p, at[2]*l.SW-l.PW+q)
				if place < 0 || l.Kind != api.KConv && c != at[0] {
					continue
				}
				whole[place] = term{true, l.A}
				if k := ((at[0]*in.C+c)*l.KH+p)*l.KW + q; l.Kind == api.KConv && k < len(l.W) {
					whole[place].w = l.W[k]
				}
			}
		}
	}
}

// thick are the places of a whole row at which something was laid, and what.
func thick(whole []term) (cols []int, w []float64) {
	for i, u := range whole {
		if u.there {
			cols = append(cols, i)
			w = append(w, u.w)
		}
	}
	return cols, w
}

// expectTwin holds every row and window of a layer against the words, and one past them.
func expectTwin(t *testing.T, l api.Layer, in api.Shape) {
	t.Helper()
	out, e := model.Out(l, in)
	if e != api.OK {
		t.Fatalf("%+v over %v: %v", l, in, e)
	}
	n := len(oracle.Coordinates(out))
	expectCount(t, l, in, n, api.OK)
	for i := range n {
		if !hasRows(l.Kind) {
			expectNoRow(t, l, in, i, api.ErrKind)
		}
		if !hasWindows(l.Kind) {
			expectNoWindow(t, l, in, i, api.ErrKind)
		}
		if !hasRows(l.Kind) && !hasWindows(l.Kind) {
			continue
		}
		whole, b := laid(l, in, out, i)
		cols, w := thick(whole)
		if hasRows(l.Kind) {
			expectRow(t, l, in, i, cols, w, b)
		}
		if hasWindows(l.Kind) {
			expectWindow(t, l, in, i, cols...)
		}
	}
	for _, i := range noRows(n) {
		if i >= 0 && i < n {
			continue
		}
		if hasRows(l.Kind) {
			expectNoRow(t, l, in, i, api.ErrArg)
		}
		if hasWindows(l.Kind) {
			expectNoWindow(t, l, in, i, api.ErrArg)
		}
	}
}

// 7.2, 7.3, 7.4
func TestTwin(t *testing.T) {
	for _, s := range samples() {
		expectTwin(t, s.layer, s.in)
	}
	var m oracle.Mixer
	seen := map[int]int{}
	for range 4000 {
		s := someLayer(&m)
		expectTwin(t, s.layer, s.in)
		seen[s.layer.Kind]++
		if t.Failed() {
			return
		}
	}
	for kind := 1; kind <= 12; kind++ {
		if seen[kind] < 50 {
			t.Errorf("the kind %d came up %d times only", kind, seen[kind])
		}
	}
}

// 7.3, 7.4: every window on every short side, down and across.
func TestTwinOfWindows(t *testing.T) {
	for size := 1; size <= 9; size++ {
		for k := 1; k <= 16; k++ {
			for step := 1; step <= 16; step += 1 + step/3 {
				for pad := 0; pad < k; pad++ {
					if size+2*pad < k {
						continue
					}
					for _, kind := range []int{api.KConv, api.KMean, api.KMax} {
						in := shape(1, size, 1)
						expectTwin(t, filled(windowed(kind, k, 1, step, 1, pad, 0), in), in)
						in = shape(1, 1, size)
						expectTwin(t, filled(windowed(kind, 1, k, 1, step, 0, pad), in), in)
					}
					if t.Failed() {
						return
					}
				}
			}
		}
	}
}

// 7.2, 7.3, 7.4: the greatest layers of each kind.
func TestGreatLayers(t *testing.T) {
	conv := windowed(api.KConv, 16, 16, 1, 1, 15, 15)
	expectTwin(t, filled(conv, line(1)), line(1))
	conv = windowed(api.KConv, 16, 16, 16, 16, 0, 0)
	conv.Out = 256
	expectTwin(t, filled(conv, shape(1, 16, 16)), shape(1, 16, 16))
	deep := windowed(api.KConv, 1, 1, 1, 1, 0, 0)
	deep.Out = 256
	expectTwin(t, filled(deep, shape(256, 1, 1)), shape(256, 1, 1))
	for _, s := range []sample{
		{api.Layer{Kind: api.KDense, Out: 256}, shape(4, 8, 8)},
		{api.Layer{Kind: api.KScale}, shape(256, 1, 1)},
		{api.Layer{Kind: api.KScale}, shape(1, 1, 256)},
		{api.Layer{Kind: api.KTurn, Out: 128}, shape(1, 256, 1)},
		{windowed(api.KMean, 16, 16, 1, 1, 15, 15), shape(1, 1, 1)},
		{windowed(api.KMax, 3, 3, 1, 1, 1, 1), shape(4, 8, 8)},
	} {
		expectTwin(t, filled(s.layer, s.in), s.in)
	}
}
