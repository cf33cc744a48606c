package acc

import (
	"testing"

	"ambit/oracle"
)

// 3.2: just below 2^2560 an Acc goes on; there it is bad, and stays so.
func TestBound(t *testing.T) {
	for i, w := range both(most()) {
		w.hold(t, "just below the bound")
		neg := i == 1
		x := w.copy().x
		x.Join(tiny().x, neg)
		isBad(t, "a real of 2^2560 by Join", x)

		x, sign := w.copy().x, 1.0-2*float64(i)
		x.Prod(sign*oracle.Least, oracle.Least, -64)
		isBad(t, "a real of 2^2560 by Prod", x)

		x = w.copy().x
		x.Add(sign * oracle.Least)
		isBad(t, "a real beyond 2^2560 by Add", x)

		x = w.copy().x
		x.Join(x, false)
		isBad(t, "twice the greatest real", x)
		x.Join(w.x, true)
		isBad(t, "a bad one that was made less", x)
		w.join(tiny(), !neg).hold(t, "away from the bound")
	}
}

// 3.2: 2^2560 itself, of both signs, in all ways of joining.
func TestBoundItself(t *testing.T) {
	for _, neg := range []bool{false, true} {
		for _, w := range both(power(2559)) {
			x, y := w.copy(), nothing().join(w, neg)
			x.x.Join(y.x, neg)
			isBad(t, "two halves of the bound", x.x)
			w.copy().join(y, !neg).hold(t, "two halves of the bound, one taken away")
		}
	}
}

// 3.2: sums of the greatest products stay below.
func TestFarBelow(t *testing.T) {
	w := nothing().prod(oracle.Max, -oracle.Max, 64)
	for range 31 {
		w.join(w.copy(), false)
	}
	w.hold(t, "2^31 of the greatest products")
}
