package rows

import (
	"ambit/api"
	"ambit/model"
)

// A row is one coordinate that a layer tells: b and the sum of each w times the input's coordinate of the same place in cols.
type row struct {
	cols []int
	w    []float64
	b    float64
}

func (r *row) put(col int, w float64) {
	r.cols = append(r.cols, col)
	r.w = append(r.w, w)
}

// rowOf is the i-th row of a layer that has one.
func rowOf(l api.Layer, in api.Shape, i int) row {
	switch l.Kind {
	case api.KDense:
		return denseRow(l, in, i)
	case api.KConv:
		return convRow(l, in, i)
	case api.KScale:
		return scaleRow(l, in, i)
	case api.KMean:
		return meanRow(l, in, i)
	}
	return turnRow(l, in, i)
}

func denseRow(l api.Layer, in api.Shape, i int) row {
	n, _ := model.Size(in)
	r := row{b: l.B[i]}
	for j, w := range l.W[i*n : (i+1)*n] {
		r.put(j, w)
	}
	return r
}

func convRow(l api.Layer, in api.Shape, i int) row {
	out, _ := model.Out(l, in)
	told := placeOf(i, out)
	first, _ := window(l, in, told)
	f := told[0]
	// The weights lie as coordinates do: the filters' channels behind one another, each as high and wide as a window.
	weights := api.Shape{C: l.Out * in.C, H: l.KH, W: l.KW}
	r := row{b: l.B[f]}
	for _, p := range within(l, in, told) {
		k := p.from(first)
		k[0] += f * in.C
		r.put(p.index(in), l.W[k.index(weights)])
	}
	return r
}

func scaleRow(l api.Layer, in api.Shape, i int) row {
	c := placeOf(i, in)[0]
	r := row{b: l.B[c]}
	r.put(i, l.W[c])
	return r
}

func meanRow(l api.Layer, in api.Shape, i int) row {
	out, _ := model.Out(l, in)
	var r row
	for _, p := range within(l, in, placeOf(i, out)) {
		r.put(p.index(in), l.A)
	}
	return r
}

// turnRow is the real part of a complex row, if i is even, else its imaginary part.
func turnRow(l api.Layer, in api.Shape, i int) row {
	n, _ := model.Size(in)
	half := n / 2
	k := i / 2
	even := i%2 == 0
	r := row{b: imag(l.ZB[k])}
	if even {
		r.b = real(l.ZB[k])
	}
	for j, z := range l.Z[k*half : (k+1)*half] {
		if even {
			r.put(2*j, real(z))
			r.put(2*j+1, turned(imag(z)))
		} else {
			r.put(2*j, imag(z))
			r.put(2*j+1, real(z))
		}
	}
	return r
}

// turned is a carried number with its sign turned: its sign bit, so that of 0 too.
func turned(a float64) float64 { return api.Float(api.Bits(a) ^ 1<<63) }
