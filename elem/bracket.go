package elem

import (
	"math/big"

	"ambit/api"
)

// How fine a bracket is: e^-t and its t are told in parts of 2^-places, and the logarithm of 2 in parts of 2^-logPlaces.
const (
	places    = 192
	logPlaces = 320
)

// logText is the greatest whole number not above 2^logPlaces times the natural logarithm of 2.
const logText = "1480553391661173448385607439722553250922680800745876974795605978609098082859138712941075737848984"

// The row 1 - t + t^2/2 - .. goes to these k: it lies below e^-t where it ends with an odd one, above it where with an even one.
const (
	lastBelow = 61
	lastAbove = 60
)

// A bracket is two bounds of e^-y: low <= unit e^-y <= high. (The chapter's A, B and M.)
type bracket struct {
	low, high, unit *big.Int
}

// bracketOf is the bracket of a number from 0 to 1600.
func bracketOf(y float64) bracket {
	log := logBelow()
	logAbove := sum(log, big.NewInt(1))
	// What is rounded to whole parts here is rounded again below, to greater ones and the same way, so it is as if it were once.
	over, under := fraction(y)
	over.Lsh(over, logPlaces)
	above, below := whole(api.Up, over, under), whole(api.Down, over, under)

	n := whole(api.Down, below, logAbove)
	part := power(logPlaces - places)
	r := whole(api.Up, difference(above, product(n, log)), part)
	s := whole(api.Down, difference(below, product(n, logAbove)), part)

	high := row(api.Up, s, lastAbove)
	if one := power(places); high.Cmp(one) > 0 {
		high = one
	}
	return bracket{low: row(api.Down, r, lastBelow), high: high, unit: power(places + int(n.Int64()))}
}

// row is a bound by d of the row 1 - t + t^2/2 - .. up to the term of k = last, of t in parts: the terms that are added are rounded by d, those that are taken away the other way.
func row(d api.Dir, t *big.Int, last int64) *big.Int {
	added, taken, total := power(places), power(places), power(places)
	next := steps(t)
	for k := int64(1); k <= last; k++ {
		next(d, added, k)
		next(otherWay(d), taken, k)
		if k%2 == 0 {
			total.Add(total, added)
		} else {
			total.Sub(total, taken)
		}
	}
	return total
}

// steps tells a function that makes of the term ahead of it the term of k: term t / (k 2^places) as a whole number, by d. (A row has many of them: so they share their memory, and a shift and a small divisor take less time than whole does.)
func steps(t *big.Int) func(d api.Dir, term *big.Int, k int64) {
	over, under, by, rest, one := new(big.Int), new(big.Int), new(big.Int), new(big.Int), big.NewInt(1)
	return func(d api.Dir, term *big.Int, k int64) {
		over.Mul(term, t)
		by.SetInt64(k)
		if d == api.Up {
			under.Sub(under.Lsh(by, places), one)
			over.Add(over, under)
		}
		term.QuoRem(term.Rsh(over, places), by, rest)
	}
}

// logBelow reads logText.
func logBelow() *big.Int {
	log, _ := new(big.Int).SetString(logText, 10)
	return log
}
