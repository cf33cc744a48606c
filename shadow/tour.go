package shadow

import (
	"ambit/acc"
	"ambit/api"
)

// A tour goes round the shadow, and tells the corners that it comes to.
type tour struct {
	re, im *acc.Acc     // where it is, exactly
	told   []complex128 // the corners so far
	off    *acc.Acc     // the greatest distance of one of their parts from the exact one
}

// cornersOf are the corners about a middle, and how far they are off; false, if one of these numbers is none.
func cornersOf(middle complex128, sides []side) ([]complex128, float64, bool) {
	t := tour{re: acc.New(), im: acc.New(), off: acc.New()}
	t.move(1, middle)
	for _, s := range sides {
		t.move(-1, s...)
	}
	// The last side back would lead to the first corner again.
	back := sides[:max(len(sides)-1, 0)]
	if !t.tell() || !t.along(2, sides) || !t.along(-2, back) {
		return nil, 0, false
	}
	far, ok := t.off.Round(api.Up)
	return t.told, far, ok
}

// move goes so many times along each of some vectors.
func (t *tour) move(times float64, vectors ...complex128) {
	for _, v := range vectors {
		t.re.Prod(real(v), times, 0)
		t.im.Prod(imag(v), times, 0)
	}
}

// along goes so many times along each side, and tells each corner behind one; false, if it can't be told.
func (t *tour) along(times float64, sides []side) bool {
	for _, s := range sides {
		t.move(times, s...)
		if !t.tell() {
			return false
		}
	}
	return true
}

// tell tells the corner where the tour is; false, if a part of it has no number.
func (t *tour) tell() bool {
	re, isRe := t.near(t.re)
	im, isIm := t.near(t.im)
	t.told = append(t.told, complex(re, im))
	return isRe && isIm
}

// near is the number that is told for a part, and keeps how far it is off, if none was farther.
func (t *tour) near(part *acc.Acc) (float64, bool) {
	a, ok := part.Round(api.Near)
	off := part.Copy()
	off.Add(-a)
	off.Abs()
	if order, _ := off.Cmp(t.off); order > 0 {
		t.off = off
	}
	return a, ok
}
