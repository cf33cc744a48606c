package samples

import (
	"slices"

	"ambit/api"
	"ambit/oracle"
)

func SameNumbers(a, b []float64) bool { return slices.EqualFunc(a, b, oracle.Same) }

func SameLists(a, b [][]float64) bool { return slices.EqualFunc(a, b, SameNumbers) }

func SameComplex(a, b complex128) bool {
	return oracle.Same(real(a), real(b)) && oracle.Same(imag(a), imag(b))
}

// wholesIn are all of a layer's whole numbers.
func wholesIn(l *api.Layer) []*int {
	return []*int{&l.Kind, &l.Out, &l.KH, &l.KW, &l.SH, &l.SW, &l.PH, &l.PW, &l.From}
}

func sameWhole(a, b *int) bool { return *a == *b }

func sameLayer(a, b api.Layer) bool {
	return slices.EqualFunc(wholesIn(&a), wholesIn(&b), sameWhole) && oracle.Same(a.A, b.A) && SameNumbers(a.W, b.W) && SameNumbers(a.B, b.B) &&
		slices.EqualFunc(a.Z, b.Z, SameComplex) && slices.EqualFunc(a.ZB, b.ZB, SameComplex)
}

// SameNet tells whether two networks are alike, bit for bit; nil and empty lists are.
func SameNet(a, b api.Net) bool {
	return a.In == b.In && slices.EqualFunc(a.Layers, b.Layers, sameLayer) && slices.Equal(a.Names, b.Names)
}

func SameProp(a, b api.Prop) bool {
	return SameNumbers(a.C, b.C) && SameLists(a.G, b.G) && SameLists(a.Claims, b.Claims) &&
		[4]int{a.Target, a.K, a.Depth, a.Looks} == [4]int{b.Target, b.K, b.Depth, b.Looks}
}
