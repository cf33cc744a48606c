package oracle

import "math/big"

// Bounds of e^-v, sigmoid and tanh, by another way than a layer's: e^-v is e^-r squared again and again, r being v halved until it is small, in parts of 2^-fine. That is far finer than any two reals are told apart in tests: tanh y and y differ by some 2^-3223 at the least number y.
const (
	fine   = 4600
	halved = 40

	// Beyond so much e^-v is known to be less than here, and no more.
	far = 4000
)

func whole(n int64) *big.Rat { return big.NewRat(n, 1) }

func plus(a, b *big.Rat) *big.Rat { return new(big.Rat).Add(a, b) }

func minus(a, b *big.Rat) *big.Rat { return new(big.Rat).Sub(a, b) }

func over(a, b *big.Rat) *big.Rat { return new(big.Rat).Quo(a, b) }

// Falling are bounds of e^-v, of a v from 0 on.
func Falling(v *big.Rat) (low, high *big.Rat) {
	if v.Cmp(whole(far)) > 0 {
		_, high = Falling(whole(far))
		return new(big.Rat), high
	}
	r := times(v, Power(fine-halved))
	part := new(big.Int).Div(r.Num(), r.Denom())
	up := rowOf(part, 1)
	if !r.IsInt() {
		part = new(big.Int).Add(part, big.NewInt(1))
	}
	down := rowOf(part, -1)
	for range halved {
		down = down.Rsh(down.Mul(down, down), fine)
		up = ceiled(up.Mul(up, up))
	}
	high = new(big.Rat).SetFrac(up, Power(fine).Num())
	if high.Cmp(whole(1)) > 0 {
		high = whole(1)
	}
	return new(big.Rat).SetFrac(down, Power(fine).Num()), high
}

// ceiled is a / 2^fine as the least whole number not below it.
func ceiled(a *big.Int) *big.Int { return a.Neg(a.Rsh(a.Neg(a), fine)) }

// rowOf is a bound of 2^fine e^-(r / 2^fine), from above with side 1, from below with side -1. Each of the row's terms is off by less than a part for each one ahead of it and itself.
func rowOf(r *big.Int, side int64) *big.Int {
	total, term := new(big.Int).Lsh(big.NewInt(1), fine), new(big.Int).Lsh(big.NewInt(1), fine)
	if r.Sign() == 0 {
		return total
	}
	k := int64(1)
	for ; term.Sign() > 0; k++ {
		term.Rsh(term.Mul(term, r), fine)
		term.Quo(term, big.NewInt(k))
		if k%2 == 1 {
			total.Sub(total, term)
		} else {
			total.Add(total, term)
		}
	}
	return total.Add(total, big.NewInt(side*k*k))
}

// Sigmoid are bounds of 1 / (1 + e^-v).
func Sigmoid(v *big.Rat) (low, high *big.Rat) {
	least, most := Falling(new(big.Rat).Abs(v))
	low, high = over(whole(1), plus(whole(1), most)), over(whole(1), plus(whole(1), least))
	if v.Sign() < 0 {
		return minus(whole(1), high), minus(whole(1), low)
	}
	return low, high
}

// Tanh are bounds of tanh v.
func Tanh(v *big.Rat) (low, high *big.Rat) {
	size := new(big.Rat).Abs(v)
	least, most := Falling(plus(size, size))
	low, high = over(minus(whole(1), most), plus(whole(1), most)), over(minus(whole(1), least), plus(whole(1), least))
	if v.Sign() < 0 {
		return new(big.Rat).Neg(high), new(big.Rat).Neg(low)
	}
	return low, high
}
