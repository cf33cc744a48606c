package model

import (
	"testing"

	"ambit/api"
	"ambit/oracle"
)

// The chapter's words once more, by counting: outputs are told one by one, and windows laid one behind the other.

// coordinates are the places of a shape, each as its channel, row and column; none, if it has no size.
func coordinates(s api.Shape) [][3]int {
	var all [][3]int
	for c := range s.C {
		for y := range s.H {
			for x := range s.W {
				all = append(all, [3]int{c, y, x})
			}
		}
	}
	return all
}

// corners are where the windows along one side begin: from the noughts ahead on, as long as the whole window lies on the side and its noughts.
func corners(size, window, step, pad int) []int {
	var all []int
	for at := -pad; at+window <= size+pad; at += step {
		all = append(all, at)
	}
	return all
}

// inside are the places of a window that lie on its side.
func inside(corner, window, size int) []int {
	var all []int
	for at := corner; at < corner+window; at++ {
		if at >= 0 && at < size {
			all = append(all, at)
		}
	}
	return all
}

// toldByWords is the shape that a layer tells whose fields are as they must be, over a shape that may be.
func toldByWords(l api.Layer, in api.Shape) api.Shape {
	down, right := corners(in.H, max(l.KH, 1), max(l.SH, 1), l.PH), corners(in.W, max(l.KW, 1), max(l.SW, 1), l.PW)
	switch l.Kind {
	case api.KDense:
		return shape(l.Out, 1, 1)
	case api.KConv:
		return shape(l.Out, len(down), len(right))
	case api.KMean, api.KMax:
		return shape(in.C, len(down), len(right))
	case api.KTurn:
		if len(coordinates(in))%2 == 1 {
			return api.Shape{}
		}
		return shape(2*l.Out, 1, 1)
	}
	return in
}

func outByWords(l api.Layer, in api.Shape) (api.Shape, api.Errno) {
	if l.Kind < 1 || l.Kind > 12 {
		return api.Shape{}, api.ErrKind
	}
	if !fieldsByWords(l) {
		return api.Shape{}, api.ErrField
	}
	if e := aByWords(l.Kind, l.A); e != api.OK {
		return api.Shape{}, e
	}
	if _, e := sizeByWords(in); e != api.OK {
		return api.Shape{}, e
	}
	told := toldByWords(l, in)
	if _, e := sizeByWords(told); e != api.OK {
		return api.Shape{}, e
	}
	return told, api.OK
}

// listsByWords counts the weights of a layer that may be: one for each term of a sum.
func listsByWords(l api.Layer, in api.Shape) [4]int {
	var n [4]int
	all := coordinates(in)
	switch l.Kind {
	case api.KDense:
		for range l.Out {
			n[0] += len(all)
			n[1]++
		}
	case api.KConv:
		for range l.Out {
			n[0] += len(coordinates(shape(in.C, l.KH, l.KW)))
			n[1]++
		}
	case api.KScale:
		n[0], n[1] = in.C, in.C
	case api.KTurn:
		for range l.Out {
			n[2] += len(all) / 2
			n[3]++
		}
	}
	return n
}

// nearly is a layer of some kind that often is one that may be, and often is not, by a little.
func nearly(m *oracle.Mixer) api.Layer {
	l := api.Layer{Kind: 1 + m.Below(12)}
	for _, f := range fields() {
		least, most := boundsByWords(l, f.name)
		switch m.Below(40) {
		case 0:
			*f.of(&l) = mixed(m)
		case 1:
			*f.of(&l) = most + m.Below(2)
		case 2:
			*f.of(&l) = least - m.Below(2)
		default:
			if most > 0 {
				*f.of(&l) = least + m.Below(min(most-least+1, 5))
			}
		}
	}
	switch {
	case m.Below(30) == 0:
		some := append(oracle.NoNumbers(), 0, 1, -1, 0.5, oracle.MinusZero())
		l.A = some[m.Below(len(some))]
	case l.Kind == api.KMean:
		l.A = m.Number(0)
	case l.Kind == api.KLeaky:
		l.A = 0.5
	}
	return l
}

// someShape is a shape that often may be.
func someShape(m *oracle.Mixer) api.Shape {
	if m.Below(30) == 0 {
		return shape(mixed(m), mixed(m), mixed(m))
	}
	return shape(1+m.Below(4), 1+m.Below(9), 1+m.Below(9))
}

// 6.2, 6.3
func TestTwin(t *testing.T) {
	var m oracle.Mixer
	seen := map[api.Errno]int{}
	for range 200000 {
		l, in := nearly(&m), someShape(&m)
		want, e := outByWords(l, in)
		expectShape(t, l, in, want, e)
		w, b, z, zb, f := Lists(l, in)
		var counts [4]int
		if e == api.OK {
			counts = listsByWords(l, in)
		}
		if got := [4]int{w, b, z, zb}; got != counts || f != e {
			t.Errorf("Lists(%+v, %v): %v %v, not %v %v", l, in, got, f, counts, e)
		}
		if t.Failed() {
			return
		}
		seen[e]++
	}
	for _, e := range []api.Errno{api.OK, api.ErrField, api.ErrNumber, api.ErrShape} {
		if seen[e] < 100 {
			t.Errorf("%v came up %d times only", e, seen[e])
		}
	}
}

// 6.2: every window on every short side.
func TestTwinOfWindows(t *testing.T) {
	for size := 1; size <= 20; size++ {
		for window := 1; window <= 16; window++ {
			for step := 1; step <= 16; step++ {
				for pad := 0; pad < window; pad++ {
					n := len(corners(size, window, step, pad))
					high := api.Layer{Kind: api.KMax, KH: window, KW: 1, SH: step, SW: 1, PH: pad}
					wide := api.Layer{Kind: api.KMax, KH: 1, KW: window, SH: 1, SW: step, PW: pad}
					if n == 0 {
						expectShape(t, high, shape(1, size, 2), api.Shape{}, api.ErrShape)
						expectShape(t, wide, shape(2, 3, size), api.Shape{}, api.ErrShape)
						continue
					}
					expectShape(t, high, shape(1, size, 2), shape(1, n, 2), api.OK)
					expectShape(t, wide, shape(2, 3, size), shape(2, 3, n), api.OK)
				}
			}
		}
	}
}
