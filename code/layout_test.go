package code

import (
	"slices"
	"strings"

	"ambit/api"
)

// A layout is bytes that are laid by the document's words, without the layers below, and where each thing in them begins that is read at once.
type layout struct {
	b      []byte
	begins []int
}

func (o *layout) thing(b ...byte) {
	o.begins = append(o.begins, len(o.b))
	o.b = append(o.b, b...)
}

// wholeBytes are groups of seven bits, the lowest first.
func wholeBytes(n int) []byte {
	var b []byte
	for n > 127 {
		b = append(b, byte(n%128+128))
		n /= 128
	}
	return append(b, byte(n))
}

func numberBytes(a float64) []byte {
	var b []byte
	for i := range 8 {
		b = append(b, byte(api.Bits(a)>>(8*i)))
	}
	return b
}

func textBytes(s string) []byte { return append(wholeBytes(len(s)), s...) }

// checkSum is CRC-32C, bit by bit.
func checkSum(b []byte) uint32 {
	r := ^uint32(0)
	for _, x := range b {
		r ^= uint32(x)
		for range 8 {
			r = r>>1 ^ 0x82f63b78*(r&1)
		}
	}
	return ^r
}

// sealed is bytes with their sum behind them.
func sealed(b ...byte) []byte {
	s := checkSum(b)
	return append(slices.Clone(b), byte(s), byte(s>>8), byte(s>>16), byte(s>>24))
}

// resealed is a form whose last four bytes are made its sum.
func resealed(b []byte) []byte { return sealed(b[:len(b)-4]...) }

// netBytes are the beginning of a network's bytes, and what follows.
func netBytes(parts ...[]byte) []byte {
	return slices.Concat([]byte{'A', 'M', 'B', 'N', 1}, slices.Concat(parts...))
}

func propBytes(parts ...[]byte) []byte {
	return slices.Concat([]byte{'A', 'M', 'B', 'P', 1}, slices.Concat(parts...))
}

func (o *layout) wholes(l ...int) {
	for _, n := range l {
		o.thing(wholeBytes(n)...)
	}
}

func (o *layout) numbers(l []float64) {
	for _, a := range l {
		o.thing(numberBytes(a)...)
	}
}

func (o *layout) complexNumbers(l []complex128) {
	for _, z := range l {
		o.numbers([]float64{real(z), imag(z)})
	}
}

// fieldsOf are the names of the fields that a kind has, by the table of chapter 6.
func fieldsOf(kind int) string {
	windows := "KH KW SH SW PH PW"
	return []string{
		api.KDense: "Out",
		api.KConv:  "Out " + windows,
		api.KMean:  windows + " A",
		api.KAdd:   "From",
		api.KTurn:  "Out",
		api.KLeaky: "A",
		api.KMax:   windows,
	}[kind]
}

// fieldNamed is one of a layer's whole numbers.
func fieldNamed(l *api.Layer, name string) *int {
	switch name {
	case "Out":
		return &l.Out
	case "KH":
		return &l.KH
	case "KW":
		return &l.KW
	case "SH":
		return &l.SH
	case "SW":
		return &l.SW
	case "PH":
		return &l.PH
	case "PW":
		return &l.PW
	}
	return &l.From
}

func (o *layout) layer(l api.Layer) {
	o.wholes(l.Kind)
	for _, name := range strings.Fields(fieldsOf(l.Kind)) {
		if name == "A" {
			o.numbers([]float64{l.A})
		} else {
			o.wholes(*fieldNamed(&l, name))
		}
	}
	o.numbers(l.W)
	o.numbers(l.B)
	o.complexNumbers(l.Z)
	o.complexNumbers(l.ZB)
}

// seal lays the sum of all that is ahead.
func (o *layout) seal() { o.thing(sealed(o.b...)[len(o.b):]...) }

func layNet(n api.Net) layout {
	var o layout
	o.thing('A', 'M', 'B', 'N')
	o.thing(1)
	o.wholes(n.In.C, n.In.H, n.In.W, len(n.Layers))
	for _, l := range n.Layers {
		o.layer(l)
	}
	o.wholes(len(n.Names))
	for _, s := range n.Names {
		o.thing(textBytes(s)...)
	}
	o.seal()
	return o
}

func layProp(p api.Prop) layout {
	var o layout
	o.thing('A', 'M', 'B', 'P')
	o.thing(1)
	o.wholes(len(p.C))
	o.numbers(p.C)
	o.wholes(len(p.G))
	for _, g := range p.G {
		o.numbers(g)
	}
	o.wholes(p.Target+1, len(p.Claims))
	for _, c := range p.Claims {
		o.wholes(len(c))
		o.numbers(c)
	}
	o.wholes(p.K, p.Depth, p.Looks)
	o.seal()
	return o
}
