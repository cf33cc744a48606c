package shadow

import (
	"fmt"
	"math/big"
	"slices"
	"testing"

	"ambit/api"
	"ambit/oracle"
	"ambit/samples"
	"ambit/zono"
)

// A second shadow, of exact fractions, by the words of the chapter.

func plus(a, b *big.Rat) *big.Rat { return new(big.Rat).Add(a, b) }

func minus(a, b *big.Rat) *big.Rat { return new(big.Rat).Sub(a, b) }

func times(a, b *big.Rat) *big.Rat { return new(big.Rat).Mul(a, b) }

func size(a *big.Rat) *big.Rat { return new(big.Rat).Abs(a) }

func whole(n int64) *big.Rat { return big.NewRat(n, 1) }

// A spot is a point of the plane, or a vector.
type spot struct{ x, y *big.Rat }

func spotOf(a complex128) spot { return spot{oracle.Exact(real(a)), oracle.Exact(imag(a))} }

func spotsOf(l []complex128) []spot {
	var all []spot
	for _, a := range l {
		all = append(all, spotOf(a))
	}
	return all
}

// plus is a and so many times b.
func (a spot) plus(n int64, b spot) spot {
	return spot{plus(a.x, times(whole(n), b.x)), plus(a.y, times(whole(n), b.y))}
}

// dot is the real part of conj(a) times b.
func (a spot) dot(b spot) *big.Rat { return plus(times(a.x, b.x), times(a.y, b.y)) }

// cross is the imaginary one.
func (a spot) cross(b spot) *big.Rat { return minus(times(a.x, b.y), times(a.y, b.x)) }

func (a spot) same(b spot) bool { return a.x.Cmp(b.x) == 0 && a.y.Cmp(b.y) == 0 }

// wantVectors are the shadow's vectors.
func wantVectors(z api.Zono, i, j int) []spot {
	var all []spot
	for _, g := range z.G {
		all = append(all, spot{oracle.Exact(g[i]), oracle.Exact(g[j])})
	}
	box := spot{oracle.Exact(z.R[i]), oracle.Exact(z.R[j])}
	if i == j {
		return append(all, box)
	}
	return append(all, spot{box.x, new(big.Rat)}, spot{new(big.Rat), box.y})
}

// wantSides are those that are left, turned, joined and put in order.
func wantSides(vectors []spot) []spot {
	var joined []spot
next:
	for _, v := range vectors {
		if v.x.Sign() == 0 && v.y.Sign() == 0 {
			continue
		}
		if v.y.Sign() < 0 || v.y.Sign() == 0 && v.x.Sign() < 0 {
			v = spot{new(big.Rat), new(big.Rat)}.plus(-1, v)
		}
		for k, u := range joined {
			if u.cross(v).Sign() == 0 {
				joined[k] = u.plus(1, v)
				continue next
			}
		}
		joined = append(joined, v)
	}
	var order []spot
	for len(joined) > 0 {
		first := slices.IndexFunc(joined, func(u spot) bool {
			return !slices.ContainsFunc(joined, func(v spot) bool { return v.cross(u).Sign() > 0 })
		})
		order, joined = append(order, joined[first]), slices.Delete(joined, first, first+1)
	}
	return order
}

// wantCorners are the exact corners.
func wantCorners(z api.Zono, i, j int) []spot {
	at := spot{oracle.Exact(z.C[i]), oracle.Exact(z.C[j])}
	sides := wantSides(wantVectors(z, i, j))
	for _, v := range sides {
		at = at.plus(-1, v)
	}
	first, all := at, []spot{at}
	for _, n := range []int64{2, -2} {
		for _, v := range sides {
			if at = at.plus(n, v); !at.same(first) {
				all = append(all, at)
			}
		}
	}
	return all
}

// wantShadow tells whether there is a shadow.
func wantShadow(z api.Zono, i, j int) api.Errno {
	if zono.Check(z) != api.OK || z.Bad {
		return api.ErrZono
	}
	if i < 0 || j < 0 || i >= z.N || j >= z.N {
		return api.ErrArg
	}
	return api.OK
}

func wantPolygon(z api.Zono, i, j int) ([]complex128, float64, api.Errno) {
	if e := wantShadow(z, i, j); e != api.OK {
		return nil, 0, e
	}
	var told []complex128
	far := new(big.Rat)
	for _, c := range wantCorners(z, i, j) {
		var parts [2]float64
		for k, v := range []*big.Rat{c.x, c.y} {
			r := oracle.Roundings(v)
			if !r.Is[api.Near] {
				return nil, 0, api.ErrNumber
			}
			parts[k] = r.Number[api.Near]
			if off := size(minus(v, oracle.Exact(parts[k]))); off.Cmp(far) > 0 {
				far = off
			}
		}
		told = append(told, complex(parts[0], parts[1]))
	}
	r := oracle.Roundings(far)
	if !r.Is[api.Up] {
		return nil, 0, api.ErrNumber
	}
	return told, r.Number[api.Up], api.OK
}

// exactReach is what Reach rounds up.
func exactReach(z api.Zono, i, j int, d complex128) *big.Rat {
	to := spotOf(d)
	sum := to.dot(spot{oracle.Exact(z.C[i]), oracle.Exact(z.C[j])})
	for _, v := range wantVectors(z, i, j) {
		sum = plus(sum, size(to.dot(v)))
	}
	return sum
}

func isNumber(a float64) bool { return a-a == 0 }

func areNumbers(a complex128) bool { return isNumber(real(a)) && isNumber(imag(a)) }

func wantReach(z api.Zono, i, j int, d complex128) (float64, api.Errno) {
	if e := wantShadow(z, i, j); e != api.OK {
		return 0, e
	}
	if !areNumbers(d) {
		return 0, api.ErrNumber
	}
	r := oracle.Roundings(exactReach(z, i, j, d))
	if !r.Is[api.Up] {
		return 0, api.ErrNumber
	}
	return r.Number[api.Up], api.OK
}

// exactArea is half the absolute value of the sum.
func exactArea(p []spot) *big.Rat {
	sum := new(big.Rat)
	for k, a := range p {
		next := p[0]
		if k+1 < len(p) {
			next = p[k+1]
		}
		sum = plus(sum, a.cross(next))
	}
	return times(size(sum), big.NewRat(1, 2))
}

func wantArea(p []complex128) (float64, bool) {
	if !slices.ContainsFunc(p, func(a complex128) bool { return !areNumbers(a) }) {
		if r := oracle.Roundings(exactArea(spotsOf(p))); r.Is[api.Near] {
			return r.Number[api.Near], true
		}
	}
	return 0, false
}

// expectTwin holds all three calls to what the second shadow tells, and tells its polygon.
func expectTwin(t *testing.T, z api.Zono, i, j int, d complex128) ([]complex128, float64, api.Errno) {
	t.Helper()
	p, far, e := wantPolygon(z, i, j)
	if e == api.OK {
		expectPolygon(t, z, i, j, far, p...)
	} else {
		expectNoPolygon(t, z, i, j, e)
	}
	if r, e := wantReach(z, i, j, d); e == api.OK {
		expectReach(t, z, i, j, d, r)
	} else {
		expectNoReach(t, z, i, j, d, e)
	}
	expectAreaTwin(t, p)
	return p, far, e
}

func expectAreaTwin(t *testing.T, p []complex128) bool {
	t.Helper()
	a, ok := wantArea(p)
	if ok {
		expectArea(t, p, a)
	} else {
		expectNoArea(t, p)
	}
	return ok
}

// 21.1 to 21.3: the same answers, and each kind of answer comes up.
func TestTwin(t *testing.T) {
	t.Parallel()
	var m oracle.Mixer
	seen := oracle.Tally{}
	for range 6000 {
		z, i, j := mixed(&m)
		p, far, e := expectTwin(t, z, i, j, mixedDirection(&m, z, i, j))
		if t.Failed() {
			return
		}
		vectors := wantVectors(z, i, j)
		sides := len(wantSides(vectors))
		seen.Note(fmt.Sprint(e), true)
		seen.Note(fmt.Sprint(min(len(p), 10), " corners"), e == api.OK)
		seen.Note("exact", e == api.OK && far == 0)
		seen.Note("off", e == api.OK && far > 0)
		seen.Note("alike", i == j && sides > 0)
		seen.Note("joined", i != j && sides > 1 && sides < len(vectors)-2)
		area, ok := Area(p)
		seen.Note("an area", ok && area > 0)
		seen.Note("no area", !ok)
	}
	seen.Expect(t, 100, fmt.Sprint(api.OK), fmt.Sprint(api.ErrNumber), "1 corners", "2 corners", "4 corners", "6 corners", "8 corners", "10 corners", "exact", "off", "alike", "joined", "an area", "no area")
}

// 21.3: of corners that no zonotope has: crossed, twice the same, as few as there may be.
func TestAreaTwin(t *testing.T) {
	t.Parallel()
	var m oracle.Mixer
	seen := oracle.Tally{}
	for range 6000 {
		number := samples.MixedKind(&m)
		var p []complex128
		for range m.Below(8) {
			p = append(p, complex(number(), number()))
			if m.Below(6) == 0 {
				p = append(p, p[m.Below(len(p))])
			}
		}
		if len(p) > 0 && m.Below(20) == 0 {
			p[m.Below(len(p))] = noDirections()[m.Below(len(noDirections()))]
		}
		ok := expectAreaTwin(t, p)
		if t.Failed() {
			return
		}
		seen.Note(fmt.Sprint(min(len(p), 4)), ok)
		seen.Note("none", !ok)
	}
	seen.Expect(t, 100, "0", "1", "2", "3", "4", "none")
}
