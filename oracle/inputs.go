package oracle

import (
	"math"
	"math/big"

	"ambit/api"
)

// MinusZero is the nought with a sign.
func MinusZero() float64 { return math.Copysign(0, -1) }

// Same tells whether two floats have the same bits.
func Same(a, b float64) bool { return api.Bits(a) == api.Bits(b) }

// Directions are all there are.
func Directions() []api.Dir { return []api.Dir{api.Near, api.Up, api.Down} }

// NoDirections are some that are none.
func NoDirections() []api.Dir { return []api.Dir{-1, 3, 9, math.MaxInt, math.MinInt} }

// NoNumbers are floats that are no number.
func NoNumbers() []float64 {
	return []float64{
		math.NaN(), math.Inf(1), math.Inf(-1),
		api.Float(0x7ff0000000000001), api.Float(0xfff8000000000000), api.Float(math.MaxUint64),
	}
}

// Heights are numbers from 0 on at which something changes.
func Heights() []float64 {
	return []float64{
		0, Least, 2 * Least, 3 * Least, 0x1p-1073 + 0x1p-1060, 0x1p-1023, 0x1p-1022 - Least, 0x1p-1022, 0x1p-1022 + Least, 0x1p-1021 - Least,
		0x1p-1000, 0x1.8p-970, 0x1p-969, 0x1.fffffffffffffp-538, 0x1p-537, 0x1.0000000000001p-512, 0x1p-511, 0x1p-107, 0x1p-54, 0x1p-53, 0x3p-53,
		0.1, 1.0 / 3, 0.5, 0.75, 1 - 0x1p-53, 1, 1 + 0x1p-52, 1 + 0x1p-51, 1.5, 2 - 0x1p-52, 2, 3, 5, 0x1.5555555555555p1, 0x1p53 - 1, 0x1p53, 0x1p53 + 2,
		0x1.0000001p27, 0x1.ffffffep511, 0x1p512, 0x1.0000000000001p513, 0x1p969, 0x1p970, 0x1p971, 0x1.8p1022, 0x1p1023, Max - 0x1p971, Max,
	}
}

// Edges are the heights, with both signs.
func Edges() []float64 {
	l := Heights()
	for _, a := range l {
		l = append(l, -a)
	}
	return l
}

// Mixer makes bits that look like none in particular, the same ones in every run.
type Mixer uint64

// Word is the next one.
func (m *Mixer) Word() uint64 {
	*m += 0x9e3779b97f4a7c15
	z := uint64(*m)
	z = (z ^ z>>30) * 0xbf58476d1ce4e5b9
	z = (z ^ z>>27) * 0x94d049bb133111eb
	return z ^ z>>31
}

// Below is a whole number from 0 on, below n.
func (m *Mixer) Below(n int) int { return int(m.Word() % uint64(n)) }

// Number is one with an exponent near the given one, often with few bits.
func (m *Mixer) Number(exponent int) float64 {
	part := 1 + float64(m.Word()>>11)/0x1p53
	if m.Below(4) == 0 {
		part = 1 + float64(m.Word()>>60)/16
	}
	if m.Below(2) == 0 {
		part = -part
	}
	a := math.Ldexp(part, exponent+m.Below(8)-4)
	if math.IsInf(a, 0) {
		return math.Copysign(Max, part)
	}
	return a
}

// Share is a real from -1 to 1, often one of the ends.
func (m *Mixer) Share() *big.Rat {
	return big.NewRat([]int64{-7, -7, -2, 0, 1, 3, 7, 7}[m.Below(8)], 7)
}
