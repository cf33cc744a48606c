package round

import (
	"math"
	"math/big"
	"sort"
	"testing"

	"ambit/api"
)

// The oracle knows the numbers only as a rising row of reals, and looks for a real's place among them.

const (
	top   = math.MaxFloat64
	least = 0x1p-1074
	half  = 0x1p-53 // half of what 1 and the number above it differ by
)

func minusZero() float64 { return math.Copysign(0, -1) }

// ends is the place of Max in the row; 0 has the place 0.
func ends() int { return int(math.Float64bits(top)) }

func numberAt(place int) float64 {
	if place < 0 {
		return -math.Float64frombits(uint64(-place))
	}
	return math.Float64frombits(uint64(place))
}

func exact(a float64) *big.Rat { return new(big.Rat).SetFloat64(a) }

func power(n int) *big.Rat {
	two := new(big.Int).Lsh(big.NewInt(1), uint(max(n, -n)))
	if n < 0 {
		return new(big.Rat).SetFrac(big.NewInt(1), two)
	}
	return new(big.Rat).SetInt(two)
}

// A rounded real: its three numbers, each with whether there is one.
type rounded struct {
	number [3]float64
	is     [3]bool
}

func (r *rounded) tell(d api.Dir, place int) {
	if place >= -ends() && place <= ends() {
		r.number[d], r.is[d] = numberAt(place), true
	}
}

// around are the places of the greatest number not above v and of the least one not below it, of a v from 0 on.
func around(v *big.Rat) (int, int) {
	up := sort.Search(ends()+1, func(place int) bool { return exact(numberAt(place)).Cmp(v) >= 0 })
	if up <= ends() && exact(numberAt(up)).Cmp(v) == 0 {
		return up, up
	}
	return up - 1, up
}

// roundings are near(v), up(v) and down(v) by the words of DOC.md, Numbers.
func roundings(v *big.Rat) rounded {
	var r rounded
	down, up := around(new(big.Rat).Abs(v))
	if v.Sign() < 0 {
		down, up = -up, -down
	}
	r.tell(api.Up, up)
	r.tell(api.Down, down)
	bound := new(big.Rat).Sub(power(1024), power(970))
	if new(big.Rat).Abs(v).Cmp(bound) < 0 {
		r.tell(api.Near, nearer(v, down, up))
	}
	return r
}

// nearer is the one of two neighbours that v is nearer to; beyond Max there is but one.
func nearer(v *big.Rat, down, up int) int {
	if up > ends() {
		return down
	}
	if down < -ends() {
		return up
	}
	below := new(big.Rat).Sub(v, exact(numberAt(down)))
	over := new(big.Rat).Sub(exact(numberAt(up)), v)
	switch below.Cmp(over) {
	case -1:
		return down
	case 1:
		return up
	}
	if down%2 == 0 {
		return down
	}
	return up
}

func directions() []api.Dir { return []api.Dir{api.Near, api.Up, api.Down} }

func noDirections() []api.Dir { return []api.Dir{-1, 3, 9, math.MaxInt, math.MinInt} }

func noNumbers() []float64 {
	return []float64{
		math.NaN(), math.Inf(1), math.Inf(-1),
		math.Float64frombits(0x7ff0000000000001), math.Float64frombits(0xfff8000000000000), math.Float64frombits(math.MaxUint64),
	}
}

// heights are numbers from 0 on at which something changes.
func heights() []float64 {
	return []float64{
		0, least, 2 * least, 3 * least, 0x1p-1073 + 0x1p-1060, 0x1p-1023, 0x1p-1022 - least, 0x1p-1022, 0x1p-1022 + least, 0x1p-1021 - least,
		0x1p-1000, 0x1.8p-970, 0x1p-969, 0x1.fffffffffffffp-538, 0x1p-537, 0x1.0000000000001p-512, 0x1p-511, 0x1p-107, half / 2, half, 3 * half,
		0.1, 1.0 / 3, 0.5, 0.75, 1 - half, 1, 1 + 2*half, 1 + 4*half, 1.5, 2 - 2*half, 2, 3, 5, 0x1.5555555555555p1, 0x1p53 - 1, 0x1p53, 0x1p53 + 2,
		0x1.0000001p27, 0x1.ffffffep511, 0x1p512, 0x1.0000000000001p513, 0x1p969, 0x1p970, 0x1p971, 0x1.8p1022, 0x1p1023, top - 0x1p971, top,
	}
}

// edges are the heights, with both signs.
func edges() []float64 {
	l := heights()
	for _, a := range l {
		l = append(l, -a)
	}
	return l
}

// A mixer makes bits that look like none in particular, the same ones in every run.
type mixer uint64

func (m *mixer) word() uint64 {
	*m += 0x9e3779b97f4a7c15
	z := uint64(*m)
	z = (z ^ z>>30) * 0xbf58476d1ce4e5b9
	z = (z ^ z>>27) * 0x94d049bb133111eb
	return z ^ z>>31
}

// number is one with an exponent near the given one, often with few bits.
func (m *mixer) number(exponent int) float64 {
	part := 1 + float64(m.word()>>11)/0x1p53
	if m.word()%4 == 0 {
		part = 1 + float64(m.word()>>60)/16
	}
	if m.word()%2 == 0 {
		part = -part
	}
	a := math.Ldexp(part, exponent+int(m.word()%8)-4)
	if math.IsInf(a, 0) {
		return math.Copysign(top, part)
	}
	return a
}

// pairs are all pairs of a height and an edge, and many of other numbers whose sums, products or quotients lie at an edge.
func pairs() [][2]float64 {
	var l [][2]float64
	for _, a := range heights() {
		for _, b := range edges() {
			l = append(l, [2]float64{a, b})
		}
	}
	var m mixer
	for range 250 {
		e := int(m.word()%2000) - 1000
		l = append(l,
			[2]float64{m.number(e), m.number(e - int(m.word()%60))},
			[2]float64{m.number(e), m.number(-e)},
			[2]float64{m.number(e), m.number(-1074 - e)},
			[2]float64{m.number(e), m.number(-1023 - e)},
			[2]float64{m.number(e), m.number(1023 - e)},
			[2]float64{m.number(e), m.number(1074 + e)},
			[2]float64{m.number(e), m.number(1022 + e)},
			[2]float64{m.number(e), m.number(e - 1023)},
		)
	}
	return l
}

func same(a, b float64) bool { return math.Float64bits(a) == math.Float64bits(b) }

func expect(t *testing.T, name string, got float64, ok bool, want float64, is bool) {
	t.Helper()
	if ok != is || !same(got, want) {
		t.Errorf("%s: %x %v, not %x %v", name, got, ok, want, is)
	}
}
