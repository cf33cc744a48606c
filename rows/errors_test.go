package rows

import (
	"math"
	"testing"

	"ambit/api"
	"ambit/model"
	"ambit/oracle"
)

// expectRefused holds all calls on a layer to the error of model.Out, whatever row is asked for.
func expectRefused(t *testing.T, l api.Layer, in api.Shape, e api.Errno) {
	t.Helper()
	if _, f := model.Out(l, in); f != e {
		t.Fatalf("Out(%+v, %v): %v, not %v", l, in, f, e)
	}
	expectCount(t, l, in, 0, e)
	for _, i := range []int{0, -1, 1 << 40} {
		expectNoRow(t, l, in, i, e)
		expectNoWindow(t, l, in, i, e)
	}
}

// 7.2, 7.3, 7.4: model.Out's error is the first, ahead of kinds, lists and rows.
func TestErrorsOfTheModelAreFirst(t *testing.T) {
	for _, kind := range noKinds() {
		expectRefused(t, api.Layer{Kind: kind, Out: -1}, line(2), api.ErrKind)
		expectRefused(t, api.Layer{Kind: kind}, api.Shape{}, api.ErrKind)
	}
	for _, s := range samples() {
		for _, in := range []api.Shape{{}, shape(1, 0, 1), shape(-1, 1, 1), shape(1, 1, 257), shape(1<<40, 1<<40, 1<<40), shape(math.MaxInt, 2, 2)} {
			expectRefused(t, s.layer, in, api.ErrShape)
		}
		l := s.layer
		l.Out = -1
		expectRefused(t, l, s.in, api.ErrField)
		l = s.layer
		l.From = -1
		expectRefused(t, l, api.Shape{}, api.ErrField)
		l = s.layer
		l.A = math.NaN()
		if k := l.Kind; k == api.KMean || k == api.KLeaky {
			expectRefused(t, l, s.in, api.ErrNumber)
		} else {
			expectRefused(t, l, s.in, api.ErrField)
		}
		if hasWindows(l.Kind) {
			for _, change := range []func(*api.Layer){
				func(l *api.Layer) { l.KH = 17 },
				func(l *api.Layer) { l.KW = 0 },
				func(l *api.Layer) { l.SH = 0 },
				func(l *api.Layer) { l.SW = math.MinInt },
				func(l *api.Layer) { l.PH = l.KH },
				func(l *api.Layer) { l.PW = math.MaxInt },
			} {
				l := s.layer
				change(&l)
				expectRefused(t, l, s.in, api.ErrField)
			}
			l := s.layer
			l.KH, l.PH = 16, 0
			expectRefused(t, l, s.in, api.ErrShape)
		}
	}
	expectRefused(t, api.Layer{Kind: api.KTurn, Out: 1}, line(3), api.ErrShape)
	expectRefused(t, windowed(api.KConv, 16, 16, 1, 1, 15, 15), line(2), api.ErrShape)
}

// 7.3: ErrKind ahead of lists and rows: of KAdd and each bent kind, with lists that may not be too.
func TestKindsWithoutRows(t *testing.T) {
	for _, s := range samples() {
		if hasRows(s.layer.Kind) {
			continue
		}
		l := s.layer
		for _, lists := range []func(){
			func() {},
			func() { l.W = []float64{1} },
			func() { l.B = []float64{1} },
			func() { l.Z, l.ZB = []complex128{1}, []complex128{1} },
		} {
			lists()
			for _, i := range []int{0, 1, -1, 24, 1 << 40} {
				expectNoRow(t, l, s.in, i, api.ErrKind)
			}
		}
	}
}

// 7.4: ErrKind ahead of rows.
func TestKindsWithoutWindows(t *testing.T) {
	for _, s := range samples() {
		if hasWindows(s.layer.Kind) {
			continue
		}
		for _, i := range []int{0, 1, -1, 24, 1 << 40} {
			expectNoWindow(t, s.layer, s.in, i, api.ErrKind)
		}
	}
}

// otherLengths are a layer's copies with one list of another length.
func otherLengths(l api.Layer) []api.Layer {
	var all []api.Layer
	put := func(change func(*api.Layer)) {
		c := l
		change(&c)
		all = append(all, c)
	}
	put(func(c *api.Layer) { c.W = append(l.W[:len(l.W):len(l.W)], 1) })
	put(func(c *api.Layer) { c.B = append(l.B[:len(l.B):len(l.B)], 1) })
	put(func(c *api.Layer) { c.Z = append(l.Z[:len(l.Z):len(l.Z)], 1) })
	put(func(c *api.Layer) { c.ZB = append(l.ZB[:len(l.ZB):len(l.ZB)], 1) })
	if len(l.W) > 0 {
		put(func(c *api.Layer) { c.W = l.W[1:] })
		put(func(c *api.Layer) { c.W = nil })
		put(func(c *api.Layer) { c.B = l.B[1:] })
		put(func(c *api.Layer) { c.B = nil })
		put(func(c *api.Layer) { c.W, c.B = append(l.W[:len(l.W):len(l.W)], 1), l.B[1:] })
	}
	if len(l.Z) > 0 {
		put(func(c *api.Layer) { c.Z = l.Z[1:] })
		put(func(c *api.Layer) { c.Z = nil })
		put(func(c *api.Layer) { c.ZB = l.ZB[1:] })
		put(func(c *api.Layer) { c.ZB = nil })
		put(func(c *api.Layer) { c.Z, c.ZB = append(l.Z[:len(l.Z):len(l.Z)], 1), l.ZB[1:] })
	}
	return all
}

// 7.3: ErrCount ahead of rows, of every list; 7.4: windows do not look at them, nor does 7.2.
func TestListsOfOtherLengths(t *testing.T) {
	for _, s := range samples() {
		n, _ := Count(s.layer, s.in)
		for _, l := range otherLengths(s.layer) {
			expectCount(t, l, s.in, n, api.OK)
			for _, i := range []int{0, n - 1, n, -1, math.MaxInt, math.MinInt} {
				if hasRows(l.Kind) {
					expectNoRow(t, l, s.in, i, api.ErrCount)
				}
			}
			if !hasWindows(l.Kind) {
				continue
			}
			for i := range n {
				want, _ := Window(s.layer, s.in, i)
				expectWindow(t, l, s.in, i, want...)
			}
			expectNoWindow(t, l, s.in, n, api.ErrArg)
			expectNoWindow(t, l, s.in, -1, api.ErrArg)
		}
	}
}

// 7.3, 7.4: the first and the last row, and those that are none.
func TestRowsThatAreNone(t *testing.T) {
	for _, s := range samples() {
		n, _ := Count(s.layer, s.in)
		if hasRows(s.layer.Kind) {
			for _, i := range []int{0, n - 1} {
				if cols, w, _, e := Row(s.layer, s.in, i); e != api.OK || len(cols) == 0 || len(cols) != len(w) {
					t.Errorf("Row %d of %d of %+v: %v %v %v", i, n, s.layer, cols, w, e)
				}
			}
			for _, i := range noRows(n) {
				expectNoRow(t, s.layer, s.in, i, api.ErrArg)
			}
		}
		if hasWindows(s.layer.Kind) {
			for _, i := range []int{0, n - 1} {
				if places, e := Window(s.layer, s.in, i); e != api.OK || len(places) == 0 {
					t.Errorf("Window %d of %d of %+v: %v %v", i, n, s.layer, places, e)
				}
			}
			for _, i := range noRows(n) {
				expectNoWindow(t, s.layer, s.in, i, api.ErrArg)
			}
		}
	}
}

// 7.4: a window's numbers are not looked at: none of the lists, nor whether they are numbers.
func TestWindowsLookAtNoList(t *testing.T) {
	conv := windowed(api.KConv, 2, 2, 1, 1, 1, 1)
	for _, none := range oracle.NoNumbers() {
		conv.W, conv.B, conv.Z = []float64{none}, nil, []complex128{complex(none, none)}
		expectWindow(t, conv, shape(1, 2, 2), 0, 0)
		expectWindow(t, conv, shape(1, 2, 2), 4, 0, 1, 2, 3)
		expectWindow(t, conv, shape(1, 2, 2), 8, 3)
	}
}
