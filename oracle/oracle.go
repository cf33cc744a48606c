// Package oracle is what tests hold the layers against; no layer leans on it.
//
// It knows the numbers only as a rising row of reals, and looks for a real's place among them. It is slow, and plain enough to be seen to follow DOC.md, Numbers.
package oracle

import (
	"math"
	"math/big"
	"sort"

	"ambit/api"
)

// Max is the greatest number, Least the least one above 0.
const (
	Max   = math.MaxFloat64
	Least = 0x1p-1074
)

// Ends is the place of Max in the row; 0 has the place 0, and -Max the place -Ends.
func Ends() int { return int(api.Bits(Max)) }

// NumberAt is the number at a place of the row.
func NumberAt(place int) float64 {
	if place < 0 {
		return -api.Float(uint64(-place))
	}
	return api.Float(uint64(place))
}

// Exact is a number's value.
func Exact(a float64) *big.Rat { return new(big.Rat).SetFloat64(a) }

// Power is 2 to the n.
func Power(n int) *big.Rat {
	two := new(big.Int).Lsh(big.NewInt(1), uint(max(n, -n)))
	if n < 0 {
		return new(big.Rat).SetFrac(big.NewInt(1), two)
	}
	return new(big.Rat).SetInt(two)
}

// Rounded is a rounded real: its three numbers, by direction, each with whether there is one.
type Rounded struct {
	Number [3]float64
	Is     [3]bool
}

// Tell keeps the number at a place, if there is one.
func (r *Rounded) Tell(d api.Dir, place int) {
	if place >= -Ends() && place <= Ends() {
		r.Number[d], r.Is[d] = NumberAt(place), true
	}
}

// Roundings are near(v), up(v) and down(v) by the words of DOC.md, Numbers.
func Roundings(v *big.Rat) Rounded {
	var r Rounded
	size := new(big.Rat).Abs(v)
	down, up := around(size)
	if v.Sign() < 0 {
		down, up = -up, -down
	}
	r.Tell(api.Up, up)
	r.Tell(api.Down, down)
	bound := new(big.Rat).Sub(Power(1024), Power(970))
	if size.Cmp(bound) < 0 {
		r.Tell(api.Near, nearer(v, down, up))
	}
	return r
}

// around are the places of the greatest number not above v and of the least one not below it, of a v from 0 on.
func around(v *big.Rat) (int, int) {
	up := sort.Search(Ends()+1, func(place int) bool { return Exact(NumberAt(place)).Cmp(v) >= 0 })
	if up <= Ends() && Exact(NumberAt(up)).Cmp(v) == 0 {
		return up, up
	}
	return up - 1, up
}

// nearer is the one of two neighbours that v is nearer to; beyond Max there is but one.
func nearer(v *big.Rat, down, up int) int {
	if up > Ends() {
		return down
	}
	if down < -Ends() {
		return up
	}
	below := new(big.Rat).Sub(v, Exact(NumberAt(down)))
	over := new(big.Rat).Sub(Exact(NumberAt(up)), v)
	switch below.Cmp(over) {
	case -1:
		return down
	case 1:
		return up
	}
	if down%2 == 0 {
		return down
	}
	return up
}
