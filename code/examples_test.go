package code

import (
	"testing"

	"ambit/api"
	"ambit/oracle"
	"ambit/samples"
)

// noughts are n bytes 0.
func noughts(n int) []byte { return make([]byte, n) }

// 8.1, 8.2
func TestExamplesOfNetworks(t *testing.T) {
	first := sealed('A', 'M', 'B', 'N', 1, 1, 1, 2, 0, 0)
	expectNetBytes(t, api.Net{In: samples.Line(2)}, first)
	expectNetBytes(t, api.Net{In: samples.Line(1), Layers: []api.Layer{{Kind: api.KLeaky, A: 0.5}}, Names: []string{"é"}},
		sealed('A', 'M', 'B', 'N', 1, 1, 1, 1, 1, 8, 0, 0, 0, 0, 0, 0, 0xe0, 0x3f, 1, 2, 0xc3, 0xa9))
	expectNetBytes(t, api.Net{In: samples.Line(1), Layers: []api.Layer{{Kind: api.KDense, Out: 1, W: []float64{2}, B: []float64{oracle.MinusZero()}}}},
		sealed('A', 'M', 'B', 'N', 1, 1, 1, 1, 1, 1, 1, 0, 0, 0, 0, 0, 0, 0, 0x40, 0, 0, 0, 0, 0, 0, 0, 0x80, 0))
	expectNoNetBytes(t, api.Net{In: samples.Shape(0, 1, 1)}, api.ErrShape, 0)

	expectNoNet(t, nil, api.ErrMagic, 0)
	expectNoNet(t, []byte("AMBN"), api.ErrVersion, 4)
	expectNoNet(t, []byte("AMBN\x02"), api.ErrVersion, 4)
	expectNoNet(t, []byte("AMBN\x01\x00\x01\x01"), api.ErrShape, 5)
	expectNoNet(t, []byte("AMBN\x01\x01\x80"), api.ErrShort, 6)
	expectNoNet(t, []byte("AMBN\x01\x01\x01\x02\x01\x0d"), api.ErrKind, 9)
	expectNoNet(t, append(first, 0), api.ErrRest, 14)
	first[13] ^= 1
	expectNoNet(t, first, api.ErrSum, 10)
}

// 8.3, 8.4
func TestExamplesOfQuestions(t *testing.T) {
	least := api.Prop{C: []float64{0}, K: 1, Looks: 1}
	expectPropBytes(t, least, sealed(propBytes([]byte{1}, noughts(8), []byte{0, 1, 0, 1, 0, 1})...))
	expectForm(t, api.Prop{}, api.ErrSize, 0)
	least.Target = -1
	expectForm(t, least, api.ErrTarget, 0)
}
