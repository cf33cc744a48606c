package point

import (
	"math"
	"math/big"
	"math/bits"

	"ambit/acc"
	"ambit/api"
)

// An exact is whole times 2^power. What whole points to is not changed any more: several may have it.
type exact struct {
	whole *big.Int
	power int
}

func one() exact { return exact{big.NewInt(1), 0} }

// isNone tells whether x is no exact number, or not small enough.
func isNone(x api.Dyad) bool {
	n := len(x.M)
	if n == 0 {
		return x.Neg || x.E != 0
	}
	return x.M[0] == 0 || x.M[n-1]%2 == 0 || !isSmall(8*(n-1)+bits.Len8(x.M[0]), x.E)
}

// isSmall tells whether an odd whole number of so many bits is small enough, with this power of 2.
func isSmall(length, power int) bool {
	return length <= api.MaxBits && -api.MaxBits <= power && power <= api.MaxBits
}

// wholeOf is the whole number of some bytes.
func wholeOf(neg bool, m []byte) *big.Int {
	whole := new(big.Int).SetBytes(m)
	if neg {
		whole.Neg(whole)
	}
	return whole
}

func exactOf(x api.Dyad) exact { return exact{wholeOf(x.Neg, x.M), x.E} }

func exactsOf(l []api.Dyad) []exact {
	all := make([]exact, len(l))
	for i, x := range l {
		all[i] = exactOf(x)
	}
	return all
}

// small is the same value with an odd whole number, or 0 with the power 0. It gives up, if that is too long.
func (x exact) small() exact {
	if x.sign() == 0 {
		return exact{x.whole, 0}
	}
	twos := x.whole.TrailingZeroBits()
	y := exact{new(big.Int).Rsh(x.whole, twos), x.power + int(twos)}
	if !isSmall(y.whole.BitLen(), y.power) {
		giveUp()
	}
	return y
}

// dyad is x in its one form. It gives up, if that is too long.
func (x exact) dyad() api.Dyad {
	y := x.small()
	if y.sign() == 0 {
		return api.Dyad{}
	}
	return api.Dyad{Neg: y.sign() < 0, M: y.whole.Bytes(), E: y.power}
}

func (x exact) sign() int { return x.whole.Sign() }

// at is what x is in parts of 2^power, of a power that is not above its own.
func (x exact) at(power int) *big.Int { return new(big.Int).Lsh(x.whole, uint(x.power-power)) }

func (x exact) plus(y exact) exact {
	power := min(x.power, y.power)
	return exact{new(big.Int).Add(x.at(power), y.at(power)), power}
}

func (x exact) minus(y exact) exact {
	return x.plus(exact{new(big.Int).Neg(y.whole), y.power})
}

func (x exact) times(y exact) exact {
	return exact{new(big.Int).Mul(x.whole, y.whole), x.power + y.power}
}

// farthest is so far that no exact number but 0 is small enough, shifted by so much: to shift it by more changes nothing, and the sum of the powers could leave an int.
const farthest = 2*api.MaxBits + 1

func (x exact) shifted(n int) exact {
	return exact{x.whole, x.power + min(max(n, -farthest), farthest)}
}

// precision is how many bits a number has.
const precision = 53

// parts are a whole number and a power of 2 of which a number is the product.
func parts(a float64) (whole int64, power int) {
	part, n := math.Frexp(a)
	return int64(math.Ldexp(part, precision)), n - precision
}

const (
	// So many bits of a whole number are more than twice as fine as a number: to tell one it is enough to know whether there is anything behind them.
	enough = 62

	// So many bits, times 2 to the so many, are above every number, and over it nearer to 0 than to any other: to go farther changes nothing.
	beyond = 1200
)

// number is the number by d of an x in its one form.
func (x exact) number(d api.Dir) (float64, bool) {
	size := new(big.Int).Abs(x.whole)
	behind := max(size.BitLen()-enough, 0)
	front := size.Rsh(size, uint(behind)).Int64()
	if behind > 0 {
		// The last bit of all is a 1, so there is something behind: one more 1 stands for it.
		front |= 1
	}
	if x.sign() < 0 {
		front = -front
	}
	return told(d, front, min(max(x.power+behind, -beyond), beyond))
}

// told is the number by d of whole * 2^power.
func told(d api.Dir, whole int64, power int) (float64, bool) {
	v := acc.New()
	low := whole % (1 << 31)
	for _, part := range [...]int64{whole - low, low} {
		// In two factors, as 2^power alone may be no number.
		v.Prod(math.Ldexp(float64(part), power-power/2), math.Ldexp(1, power/2), 0)
	}
	return v.Round(d)
}
