package point

import "math/big"

// A sum is added up in place, and each product in the room of the one ahead of it: a row of a layer has many, and all of them may be long.
type sum struct {
	whole        big.Int
	power        int
	factor, term big.Int
}

// put adds a number times v.
func (s *sum) put(a float64, v exact) {
	whole, power := parts(a)
	power += v.power
	s.term.Mul(s.factor.SetInt64(whole), v.whole)
	switch {
	case s.term.Sign() == 0:
		return
	case s.whole.Sign() == 0:
		// Of 0 every power is as good: with this one there is nothing to be shifted.
		s.power = power
	case power < s.power:
		s.whole.Lsh(&s.whole, uint(s.power-power))
		s.power = power
	}
	s.term.Lsh(&s.term, uint(power-s.power))
	s.whole.Add(&s.whole, &s.term)
}

// total is what was added up so far.
func (s *sum) total() exact { return exact{new(big.Int).Set(&s.whole), s.power} }

// weighed is the sum of each of v times its number in w, and b.
func weighed(w []float64, v []exact, b float64) exact {
	var s sum
	for i, a := range w {
		s.put(a, v[i])
	}
	s.put(b, one())
	return s.total()
}
