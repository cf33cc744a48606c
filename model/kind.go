package model

import (
	"math"

	"ambit/api"
)

// The whole numbers of a layer, in the order in which they are looked at.
const (
	rows = iota
	windowHeight
	windowWidth
	stepDown
	stepRight
	padHeight
	padWidth
	earlier
	wholes
)

// What A may be.
const (
	nought    = iota // +0, by its bits
	anyNumber        // any number
	fraction         // a number from 0 to 1
)

// A bound is the least and the greatest that a whole number may be; where a kind has not that number, both are 0.
type bound struct{ least, most int }

func (b bound) holds(n int) bool { return b.least <= n && n <= b.most }

// A form is what a layer must be by its kind, and what it tells. Of a layer that is not as it must be, or over a shape that is none, only the bounds mean something: the rest is looked at behind them.
type form struct {
	whole       [wholes]bound
	a           int
	told        api.Shape // one of no size, if the layer does not go with the shape ahead
	w, b, z, zb int       // how many numbers the lists must have
}

// formOf is the form of a layer over an input of that shape, and whether its kind is one.
func formOf(l api.Layer, in api.Shape) (form, bool) {
	n, _ := Size(in)
	f := form{told: in}
	switch l.Kind {
	case api.KDense:
		f.whole[rows] = bound{1, api.MaxWidth}
		f.told = api.Shape{C: l.Out, H: 1, W: 1}
		f.w, f.b = l.Out*n, l.Out
	case api.KConv:
		f.whole[rows] = bound{1, api.MaxWidth}
		f.told.C = l.Out
		f.w, f.b = l.Out*in.C*l.KH*l.KW, l.Out
		fallthrough
	case api.KMean, api.KMax:
		f.goByWindows(l, in)
		if l.Kind == api.KMean {
			f.a = anyNumber
		}
	case api.KScale:
		f.w, f.b = in.C, in.C
	case api.KAdd:
		f.whole[earlier] = bound{0, api.MaxLayers}
	case api.KTurn:
		f.whole[rows] = bound{1, api.MaxWidth / 2}
		f.told = turned(l.Out, n)
		f.z, f.zb = l.Out*(n/2), l.Out
	case api.KLeaky:
		f.a = fraction
	case api.KRelu, api.KTanh, api.KSigmoid, api.KSquare:
	default:
		return form{}, false
	}
	return f, true
}

// goByWindows is what all kinds share that go by windows.
func (f *form) goByWindows(l api.Layer, in api.Shape) {
	f.whole[windowHeight] = bound{1, api.MaxKernel}
	f.whole[windowWidth] = bound{1, api.MaxKernel}
	f.whole[stepDown] = bound{1, api.MaxStride}
	f.whole[stepRight] = bound{1, api.MaxStride}
	f.whole[padHeight] = bound{0, l.KH - 1}
	f.whole[padWidth] = bound{0, l.KW - 1}
	f.told.H = windows(in.H, l.PH, l.KH, l.SH)
	f.told.W = windows(in.W, l.PW, l.KW, l.SW)
}

// windows is how many windows stand side by side; none, if there is no room for one.
func windows(size, pad, window, step int) int {
	room := size + 2*pad - window
	if room < 0 || step < 1 {
		return 0
	}
	return room/step + 1
}

// turned is the shape of so many complex numbers; none, if those ahead are not whole.
func turned(out, n int) api.Shape {
	if n%2 != 0 {
		return api.Shape{}
	}
	return api.Shape{C: 2 * out, H: 1, W: 1}
}

// fields tells the first field of a layer that is not as the form has it.
func (f form) fields(l api.Layer) api.Errno {
	for i, n := range [wholes]int{l.Out, l.KH, l.KW, l.SH, l.SW, l.PH, l.PW, l.From} {
		if !f.whole[i].holds(n) {
			return api.ErrField
		}
	}
	switch {
	case f.a == nought && api.Bits(l.A) != 0:
		return api.ErrField
	case f.a != nought && !number(l.A):
		return api.ErrNumber
	case f.a == fraction && (l.A < 0 || l.A > 1):
		return api.ErrField
	}
	return api.OK
}

// fit is the form of a layer that goes with an input of that shape, its lists not looked at.
func fit(l api.Layer, in api.Shape) (form, api.Errno) {
	f, ok := formOf(l, in)
	if !ok {
		return form{}, api.ErrKind
	}
	if e := f.fields(l); e != api.OK {
		return form{}, e
	}
	for _, s := range [...]api.Shape{in, f.told} {
		if _, e := Size(s); e != api.OK {
			return form{}, e
		}
	}
	return f, api.OK
}

// lists tells what is wrong with a layer's lists: their lengths ahead of their numbers.
func (f form) lists(l api.Layer) api.Errno {
	switch {
	case len(l.W) != f.w, len(l.B) != f.b, len(l.Z) != f.z, len(l.ZB) != f.zb:
		return api.ErrCount
	case !numbers(l.W), !numbers(l.B), !pairs(l.Z), !pairs(l.ZB):
		return api.ErrNumber
	}
	return api.OK
}

func number(a float64) bool { return math.Abs(a) <= math.MaxFloat64 }

func numbers(list []float64) bool {
	for _, a := range list {
		if !number(a) {
			return false
		}
	}
	return true
}

func pairs(list []complex128) bool {
	for _, z := range list {
		if !number(real(z)) || !number(imag(z)) {
			return false
		}
	}
	return true
}
