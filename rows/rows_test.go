package rows

import (
	"math"
	"testing"

	"ambit/api"
	"ambit/oracle"
)

// 7.1
func TestKinds(t *testing.T) {
	for kind := 1; kind <= 12; kind++ {
		if Linear(kind) != (kind <= 6) || Bent(kind) != (kind >= 7) {
			t.Errorf("the kind %d: %v %v", kind, Linear(kind), Bent(kind))
		}
	}
	for _, kind := range noKinds() {
		if Linear(kind) || Bent(kind) {
			t.Errorf("the kind %d: %v %v", kind, Linear(kind), Bent(kind))
		}
	}
}

// 7.2: KAdd and the bent kinds are counted too, and lists are not looked at.
func TestCount(t *testing.T) {
	want := []int{5, 3 * 4 * 3, 24, 2 * 4 * 3, 24, 4, 24, 24, 24, 24, 24, 2 * 4 * 3}
	for i, s := range samples() {
		expectCount(t, s.layer, s.in, want[i], api.OK)
		l := s.layer
		l.W, l.B, l.Z, l.ZB = []float64{math.NaN()}, nil, []complex128{0, 0, 0}, nil
		expectCount(t, l, s.in, want[i], api.OK)
	}
}

// 7.3: windows that overhang on each side, and on two at once.
func TestRowsThatOverhang(t *testing.T) {
	conv := windowed(api.KConv, 3, 3, 1, 1, 1, 1)
	conv.W, conv.B = counted(9), []float64{7}
	in := shape(1, 3, 3)
	for i, want := range []struct {
		cols []int
		w    []float64
	}{
		{[]int{0, 1, 3, 4}, []float64{5, 6, 8, 9}},
		{[]int{0, 1, 2, 3, 4, 5}, []float64{4, 5, 6, 7, 8, 9}},
		{[]int{1, 2, 4, 5}, []float64{4, 5, 7, 8}},
		{[]int{0, 1, 3, 4, 6, 7}, []float64{2, 3, 5, 6, 8, 9}},
		{[]int{0, 1, 2, 3, 4, 5, 6, 7, 8}, []float64{1, 2, 3, 4, 5, 6, 7, 8, 9}},
		{[]int{1, 2, 4, 5, 7, 8}, []float64{1, 2, 4, 5, 7, 8}},
		{[]int{3, 4, 6, 7}, []float64{2, 3, 5, 6}},
		{[]int{3, 4, 5, 6, 7, 8}, []float64{1, 2, 3, 4, 5, 6}},
		{[]int{4, 5, 7, 8}, []float64{1, 2, 4, 5}},
	} {
		expectRow(t, conv, in, i, want.cols, want.w, 7)
		expectWindow(t, conv, in, i, want.cols...)
	}
}

// 7.3: the numbers of each filter and of each channel.
func TestFiltersAndChannels(t *testing.T) {
	conv := windowed(api.KConv, 1, 2, 1, 1, 0, 0)
	conv.Out, conv.W, conv.B = 2, counted(2*3*1*2), []float64{-1, -2}
	in := shape(3, 2, 3)
	expectRow(t, conv, in, 0, []int{0, 1, 6, 7, 12, 13}, []float64{1, 2, 3, 4, 5, 6}, -1)
	expectRow(t, conv, in, 3, []int{4, 5, 10, 11, 16, 17}, []float64{1, 2, 3, 4, 5, 6}, -1)
	expectRow(t, conv, in, 4, []int{0, 1, 6, 7, 12, 13}, []float64{7, 8, 9, 10, 11, 12}, -2)
	expectRow(t, conv, in, 7, []int{4, 5, 10, 11, 16, 17}, []float64{7, 8, 9, 10, 11, 12}, -2)
	expectNoRow(t, conv, in, 8, api.ErrArg)
	expectWindow(t, conv, in, 7, 4, 5, 10, 11, 16, 17)
}

// 7.3, 7.4: KMean and KMax keep to the channel.
func TestWindowsOfOneChannel(t *testing.T) {
	in := shape(3, 2, 2)
	mean := windowed(api.KMean, 2, 2, 1, 1, 0, 0)
	most := windowed(api.KMax, 2, 2, 1, 1, 0, 0)
	for c := range 3 {
		places := []int{4 * c, 4*c + 1, 4*c + 2, 4*c + 3}
		expectRow(t, mean, in, c, places, []float64{-0.25, -0.25, -0.25, -0.25}, 0)
		expectWindow(t, mean, in, c, places...)
		expectWindow(t, most, in, c, places...)
	}
	conv := windowed(api.KConv, 2, 2, 1, 1, 0, 0)
	expectWindow(t, conv, in, 0, 0, 1, 2, 3, 4, 5, 6, 7, 8, 9, 10, 11)
	expectNoWindow(t, conv, in, 1, api.ErrArg)
}

// 7.3: steps that leave something out, behind the last window too.
func TestSteps(t *testing.T) {
	mean := windowed(api.KMean, 1, 2, 3, 4, 0, 1)
	in := shape(1, 5, 8)
	expectCount(t, mean, in, 2*3, api.OK)
	for i, places := range [][]int{{0}, {3, 4}, {7}, {24}, {27, 28}, {31}} {
		expectWindow(t, mean, in, i, places...)
		w := make([]float64, len(places))
		for k := range w {
			w[k] = -0.25
		}
		expectRow(t, mean, in, i, places, w, 0)
	}
}

// 7.3: turns of two numbers, their real and their imaginary rows.
func TestTurns(t *testing.T) {
	turn := api.Layer{Kind: api.KTurn, Out: 2, Z: []complex128{1 + 2i, 3 - 4i, -5 + 6i, -7 - 8i}, ZB: []complex128{9 + 10i, -11 - 12i}}
	all := []int{0, 1, 2, 3}
	for _, in := range []api.Shape{line(4), shape(4, 1, 1), shape(2, 2, 1), shape(1, 2, 2)} {
		expectCount(t, turn, in, 4, api.OK)
		expectRow(t, turn, in, 0, all, []float64{1, -2, 3, 4}, 9)
		expectRow(t, turn, in, 1, all, []float64{2, 1, -4, 3}, 10)
		expectRow(t, turn, in, 2, all, []float64{-5, -6, -7, 8}, -11)
		expectRow(t, turn, in, 3, all, []float64{6, -5, -8, -7}, -12)
		expectNoRow(t, turn, in, 4, api.ErrArg)
	}
}

// 7.3: numbers are carried with all their bits; a sign is turned by its bit.
func TestNumbersAreCarried(t *testing.T) {
	for _, a := range append(oracle.Edges(), 0, oracle.MinusZero(), 0.1, -0.1) {
		back := math.Copysign(a, 1)
		if !math.Signbit(a) {
			back = math.Copysign(a, -1)
		}
		dense := api.Layer{Kind: api.KDense, Out: 1, W: []float64{a, -1}, B: []float64{a}}
		expectRow(t, dense, line(2), 0, []int{0, 1}, []float64{a, -1}, a)
		conv := windowed(api.KConv, 1, 1, 1, 1, 0, 0)
		conv.W, conv.B = []float64{a}, []float64{a}
		expectRow(t, conv, line(2), 1, []int{1}, []float64{a}, a)
		scale := api.Layer{Kind: api.KScale, W: []float64{a}, B: []float64{a}}
		expectRow(t, scale, line(2), 1, []int{1}, []float64{a}, a)
		mean := windowed(api.KMean, 1, 2, 1, 1, 0, 0)
		mean.A = a
		expectRow(t, mean, line(2), 0, []int{0, 1}, []float64{a, a}, 0)
		turn := api.Layer{Kind: api.KTurn, Out: 1, Z: []complex128{complex(5, a)}, ZB: []complex128{complex(a, 6)}}
		expectRow(t, turn, line(2), 0, []int{0, 1}, []float64{5, back}, a)
		expectRow(t, turn, line(2), 1, []int{0, 1}, []float64{a, 5}, 6)
		turn = api.Layer{Kind: api.KTurn, Out: 1, Z: []complex128{complex(a, 5)}, ZB: []complex128{complex(6, a)}}
		expectRow(t, turn, line(2), 0, []int{0, 1}, []float64{a, -5}, 6)
		expectRow(t, turn, line(2), 1, []int{0, 1}, []float64{5, a}, a)
	}
}

// sameOrNone tells whether two things are the same number, or both none.
func sameOrNone(a, b float64) bool {
	if math.IsNaN(a) || math.IsInf(a, 0) {
		return math.IsNaN(b) || math.IsInf(b, 0)
	}
	return oracle.Same(a, b)
}

// 7.3: what is no number in the lists is told as something that is none, each at its place, and is no error.
func TestWhatIsNoNumber(t *testing.T) {
	for _, none := range oracle.NoNumbers() {
		for _, s := range matrices() {
			for _, l := range spoilt(s.layer, none) {
				expectSpoilt(t, l, s.in)
			}
		}
	}
}

// spoilt are a layer's copies with something in the midst of one of its lists.
func spoilt(l api.Layer, none float64) []api.Layer {
	var all []api.Layer
	put := func(change func(*api.Layer)) {
		c := l
		c.W, c.B = append([]float64(nil), l.W...), append([]float64(nil), l.B...)
		c.Z, c.ZB = append([]complex128(nil), l.Z...), append([]complex128(nil), l.ZB...)
		change(&c)
		all = append(all, c)
	}
	if k := len(l.W); k > 0 {
		put(func(c *api.Layer) { c.W[k/2] = none })
		put(func(c *api.Layer) { c.B[len(c.B)-1] = none })
	}
	if k := len(l.Z); k > 0 {
		put(func(c *api.Layer) { c.Z[k/2] = complex(none, 1) })
		put(func(c *api.Layer) { c.Z[k/2] = complex(1, none) })
		put(func(c *api.Layer) { c.ZB[0] = complex(none, 1) })
		put(func(c *api.Layer) { c.ZB[0] = complex(1, none) })
	}
	return all
}

func expectSpoilt(t *testing.T, l api.Layer, in api.Shape) {
	t.Helper()
	n, _ := Count(l, in)
	out := toldBy(l, in)
	nones := 0
	for i := range n {
		whole, wantB := laid(l, in, out, i)
		wantCols, wantW := thick(whole)
		cols, w, b, e := Row(l, in, i)
		if e != api.OK || len(cols) != len(wantCols) || len(w) != len(wantW) || !sameOrNone(wantB, b) {
			t.Fatalf("Row(%+v, %v, %d): %v %v %v %v", l, in, i, cols, w, b, e)
		}
		for k := range w {
			if cols[k] != wantCols[k] || !sameOrNone(wantW[k], w[k]) {
				t.Fatalf("Row(%+v, %v, %d): %v %v", l, in, i, cols, w)
			}
			if w[k]-w[k] != 0 {
				nones++
			}
		}
		if b-b != 0 {
			nones++
		}
	}
	if nones == 0 {
		t.Errorf("%+v over %v: all rows are of numbers", l, in)
	}
}
