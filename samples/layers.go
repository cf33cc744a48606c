// Package samples is networks, questions, regions, spans and zonotopes for the tests of several layers, and what tells whether two of them are alike; no layer leans on it.
package samples

import (
	"slices"

	"ambit/api"
	"ambit/model"
	"ambit/oracle"
)

func Shape(c, h, w int) api.Shape { return api.Shape{C: c, H: h, W: w} }

// Line is the shape of so many coordinates in one row.
func Line(n int) api.Shape { return Shape(1, 1, n) }

// Ones are n numbers, all of them 1.
func Ones(n int) []float64 { return slices.Repeat([]float64{1}, n) }

// Columns are k lists of n numbers.
func Columns(k, n int) [][]float64 {
	var l [][]float64
	for range k {
		l = append(l, Ones(n))
	}
	return l
}

// Counted are the numbers 1, 2, 3 and so on, so that each tells where it stood; every third one is turned, and there are noughts with and without a sign among them.
func Counted(n int) []float64 {
	l := make([]float64, n)
	for i := range l {
		l[i] = float64(i + 1)
		switch i % 6 {
		case 2:
			l[i] = -l[i] / 8
		case 4:
			l[i] = oracle.MinusZero()
		case 5:
			l[i] = 0
		}
	}
	return l
}

// Filled is a layer with the lists that it must have: no two of them alike.
func Filled(l api.Layer, in api.Shape) api.Layer {
	w, b, z, zb, _ := model.Lists(l, in)
	all := Counted(w + b + 2*(z+zb))
	l.W, l.B = slices.Clone(all[:w]), slices.Clone(all[w:w+b])
	l.Z, l.ZB = nil, nil
	for i := range z + zb {
		l.Z = append(l.Z, complex(all[2*i], all[2*i+1]))
	}
	l.Z, l.ZB = l.Z[:z], slices.Clone(l.Z[z:])
	return l
}

// Windowed is a layer of a kind that goes by windows, with its rows and columns, steps and noughts.
func Windowed(kind, kh, kw, sh, sw, ph, pw int) api.Layer {
	l := api.Layer{Kind: kind, KH: kh, KW: kw, SH: sh, SW: sw, PH: ph, PW: pw}
	switch kind {
	case api.KConv:
		l.Out = 2
	case api.KMean:
		l.A = -0.25
	}
	return l
}

func Relu() api.Layer { return api.Layer{Kind: api.KRelu} }

func Dense(out int) api.Layer { return api.Layer{Kind: api.KDense, Out: out} }

func Turn(out int) api.Layer { return api.Layer{Kind: api.KTurn, Out: out} }

func Leaky(a float64) api.Layer { return api.Layer{Kind: api.KLeaky, A: a} }

func Add(from int) api.Layer { return api.Layer{Kind: api.KAdd, From: from} }
