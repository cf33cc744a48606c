package text

import (
	"math"
	"math/big"
	"strings"

	"ambit/acc"
	"ambit/api"
)

// The bases of a number's two forms.
const (
	decimal     = 10
	hexadecimal = 16
)

// mostPower is how many digits a power has at most.
const mostPower = 4

// A numeral is what a number's text says.
type numeral struct {
	neg    bool
	base   int
	digits []byte // all of them, without the point
	behind int    // how many of them stand behind the point
	power  int    // of 10 by the decimal base, of 2 by the hexadecimal one
}

// mark is what stands ahead of the power.
func (n numeral) mark() int {
	if n.base == hexadecimal {
		return 'p'
	}
	return 'e'
}

// A tape is a text that is gone through from its beginning on.
type tape struct{ left string }

// end is what a tape tells behind its last byte; no byte is that.
const end = -1

func (t *tape) next() int {
	if t.left == "" {
		return end
	}
	c := t.left[0]
	t.left = t.left[1:]
	return int(c)
}

// pass passes over a word, if it stands next.
func (t *tape) pass(word string) (there bool) {
	t.left, there = strings.CutPrefix(t.left, word)
	return there
}

func isDigit(c, base int) bool {
	return '0' <= c && c <= '9' || base == hexadecimal && 'a' <= c && c <= 'f'
}

// numeralOf goes through a number's text: a label is a state, and c the byte that it looks at. False, if the text has neither form.
func numeralOf(s string) (numeral, bool) {
	t := tape{s}
	n := numeral{neg: t.pass("-"), base: decimal}
	if t.pass("0x") {
		n.base = hexadecimal
	}
	turn, count := 1, 0 // of the power: its sign, and how many digits it has so far

	c := t.next()
	if !isDigit(c, n.base) {
		goto none
	}
whole:
	n.digits = append(n.digits, byte(c))
	c = t.next()
	switch {
	case isDigit(c, n.base):
		goto whole
	case c == '.':
		goto point
	}
	goto digitsEnd
point:
	c = t.next()
	if !isDigit(c, n.base) {
		goto none
	}
fraction:
	n.digits = append(n.digits, byte(c))
	n.behind++
	c = t.next()
	if isDigit(c, n.base) {
		goto fraction
	}
digitsEnd:
	switch {
	case c == n.mark():
		goto sign
	case c == end && n.base == decimal:
		return n, true
	}
	goto none
sign:
	c = t.next()
	if c == '-' {
		turn = -1
	}
	if c == '-' || c == '+' {
		c = t.next()
	}
power:
	if !isDigit(c, decimal) || count == mostPower {
		goto none
	}
	n.power = n.power*10 + turn*(c-'0')
	count++
	c = t.next()
	if c != end {
		goto power
	}
	return n, true
none:
	return numeral{}, false
}

// What is below 10^-farBelow is nearer to 0 than to any other number; no number is 10^farAbove or more.
const (
	farBelow = 324
	farAbove = 309
)

// near is near of the numeral's value, its sign left out.
func (n numeral) near() (float64, bool) {
	over, _ := new(big.Int).SetString(string(n.digits), n.base)
	one := big.NewInt(1)
	tens := n.power - n.behind
	switch {
	case over.Sign() == 0:
		return 0, true
	case n.base == hexadecimal:
		return near(over, one, n.power-4*n.behind)
	// Powers of 10 far off are not reckoned: a text may have very many of them.
	case len(n.digits)+tens <= -farBelow:
		return 0, true
	case tens >= farAbove:
		return 0, false
	case tens < 0:
		return near(over, fives(-tens), tens)
	}
	return near(over.Mul(over, fives(tens)), one, tens)
}

// fives is 5 to the n.
func fives(n int) *big.Int { return new(big.Int).Exp(big.NewInt(5), big.NewInt(int64(n)), nil) }

// The powers of 2 between which the first 1 of a real stands, if near of it is a number and not 0.
const (
	lowestOne  = -1075
	highestOne = 1023
)

// near is near of over / under * 2^power, of an over and an under above 0.
func near(over, under *big.Int, power int) (float64, bool) {
	// So many twos, on the one or on the other, and the quotient has 63 or 64 bits.
	twos := 63 + under.BitLen() - over.BitLen()
	over = new(big.Int).Lsh(over, uint(max(twos, 0)))
	under = new(big.Int).Lsh(under, uint(max(-twos, 0)))
	quotient, rest := new(big.Int).QuoRem(over, under, new(big.Int))
	power -= twos
	first := quotient.BitLen() - 1 + power
	switch {
	case first < lowestOne:
		return 0, true
	case first > highestOne:
		return 0, false
	}
	return rounded(quotient.Uint64(), rest.Sign() > 0, power)
}

// rounded is near of a whole number of 63 or 64 bits, with a bit more or without, times 2^power.
func rounded(whole uint64, more bool, power int) (float64, bool) {
	x := acc.New()
	add := func(part float64) {
		// In two factors, as 2^power alone may be no number.
		x.Prod(math.Ldexp(part, power-power/2), math.Ldexp(1, power/2), 0)
	}
	low := whole & (1<<32 - 1)
	add(float64(whole - low))
	add(float64(low))
	if more {
		// A half stands for whatever is more: numbers, and the middles between two, are whole here.
		add(0.5)
	}
	return x.Round(api.Near)
}
