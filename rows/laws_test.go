package rows

import (
	"fmt"
	"math"
	"math/big"
	"slices"
	"testing"

	"ambit/api"
	"ambit/model"
	"ambit/oracle"
)

// 7.5: a layer is its matrix.
func TestRowsTimesAnInput(t *testing.T) {
	var m oracle.Mixer
	seen := map[int]int{}
	for range 1500 {
		s := someLayer(&m)
		if !hasRows(s.layer.Kind) {
			continue
		}
		seen[s.layer.Kind]++
		if e := model.Layer(s.layer, s.in); e != api.OK {
			t.Fatalf("%+v over %v: %v", s.layer, s.in, e)
		}
		n, _ := model.Size(s.in)
		var v []*big.Rat
		for range n {
			v = append(v, oracle.Exact(mixedNumber(&m)))
		}
		for i, want := range oracle.Tells(s.layer, s.in, toldBy(s.layer, s.in), v) {
			cols, w, b, e := Row(s.layer, s.in, i)
			if e != api.OK {
				t.Fatalf("row %d of %+v: %v", i, s.layer, e)
			}
			sum := oracle.Exact(b)
			for k, c := range cols {
				sum.Add(sum, new(big.Rat).Mul(oracle.Exact(w[k]), v[c]))
			}
			if sum.Cmp(want) != 0 {
				t.Fatalf("row %d of %+v over %v: %v, not %v", i, s.layer, s.in, sum, want)
			}
		}
	}
	for kind := 1; kind <= 6; kind++ {
		if hasRows(kind) && seen[kind] < 50 {
			t.Errorf("the kind %d came up %d times only", kind, seen[kind])
		}
	}
}

// rising tells whether each of some places stands once, one behind the other, within n.
func rising(places []int, n int) bool {
	last := -1
	for _, p := range places {
		if p <= last || p >= n {
			return false
		}
		last = p
	}
	return true
}

// 7.3, 7.4, 7.6: places rise; no window is empty; a row of KMean and of KConv has its places.
func TestWindowsAndRows(t *testing.T) {
	var m oracle.Mixer
	for range 6000 {
		s := someLayer(&m)
		size, _ := model.Size(s.in)
		n, _ := Count(s.layer, s.in)
		for i := range n {
			places, e := Window(s.layer, s.in, i)
			if e == api.OK && (len(places) == 0 || !rising(places, size)) {
				t.Fatalf("Window(%+v, %v, %d): %v", s.layer, s.in, i, places)
			}
			cols, w, _, f := Row(s.layer, s.in, i)
			if f == api.OK && (len(cols) == 0 || len(w) != len(cols) || !rising(cols, size)) {
				t.Fatalf("Row(%+v, %v, %d): %v %v", s.layer, s.in, i, cols, w)
			}
			if e == api.OK && f == api.OK && !slices.Equal(cols, places) {
				t.Fatalf("%d of %+v over %v: the row's places %v, the window's %v", i, s.layer, s.in, cols, places)
			}
		}
	}
}

// expectAlike holds two layers to the same rows.
func expectAlike(t *testing.T, a, b api.Layer, in api.Shape) {
	t.Helper()
	n, e := Count(a, in)
	if k, f := Count(b, in); n != k || e != api.OK || f != api.OK {
		t.Fatalf("%+v and %+v over %v: %d %v and %d %v", a, b, in, n, e, k, f)
	}
	for i := range n {
		cols, w, bias, e := Row(b, in, i)
		if e != api.OK {
			t.Fatalf("row %d of %+v over %v: %v", i, b, in, e)
		}
		expectRow(t, a, in, i, cols, w, bias)
	}
}

// 7.6: a KConv of one place over one row and one column is a KDense.
func TestConvOfOnePlaceIsDense(t *testing.T) {
	var m oracle.Mixer
	for _, channels := range []int{1, 2, 3, 17, 255, 256} {
		for _, out := range []int{1, 2, 5, 255, 256} {
			in := shape(channels, 1, 1)
			conv := windowed(api.KConv, 1, 1, 1, 1, 0, 0)
			conv.Out = out
			conv = mixedLists(&m, conv, in)
			expectAlike(t, conv, api.Layer{Kind: api.KDense, Out: out, W: conv.W, B: conv.B}, in)
		}
	}
}

// 7.6: a KMean of one place, step by step, is a KScale.
func TestMeanOfOnePlaceIsScale(t *testing.T) {
	var m oracle.Mixer
	for range 300 {
		in := shape(1+m.Below(5), 1+m.Below(7), 1+m.Below(7))
		mean := windowed(api.KMean, 1, 1, 1, 1, 0, 0)
		mean.A = mixedNumber(&m)
		scale := api.Layer{Kind: api.KScale, W: slices.Repeat([]float64{mean.A}, in.C), B: make([]float64, in.C)}
		expectAlike(t, mean, scale, in)
	}
}

// anyWhole is a whole number that is often small, and often great.
func anyWhole(m *oracle.Mixer) int {
	great := []int{math.MaxInt, math.MinInt, math.MaxInt - 1, 1 << 62, -1 << 62, 1 << 40, 1<<32 + 1, 3037000500, 255, 256, 257, -1, -2}
	if m.Below(12) == 0 {
		return great[m.Below(len(great))]
	}
	return m.Below(4)
}

// 7.7: whatever is handed in, every call ends, and tells nothing beside an error.
func TestAnyInputs(t *testing.T) {
	var m oracle.Mixer
	seen := map[api.Errno]int{}
	for range 100000 {
		in := shape(anyWhole(&m), anyWhole(&m), anyWhole(&m))
		l := api.Layer{Kind: m.Below(14), A: 1}
		switch m.Below(3) {
		case 0:
			some := someLayer(&m)
			l = some.layer
			if m.Below(2) == 0 {
				in = some.in
			}
		case 1:
			l.Out, l.KH, l.KW, l.SH, l.SW, l.PH, l.PW = anyWhole(&m), anyWhole(&m), anyWhole(&m), anyWhole(&m), anyWhole(&m), anyWhole(&m), anyWhole(&m)
			l.From, l.A = anyWhole(&m), api.Float(m.Word())
		}
		for range m.Below(5) {
			l.W = append(l.W, api.Float(m.Word()))
			l.Z = append(l.Z, api.Complex(m.Word(), m.Word()))
		}
		i := anyWhole(&m)
		if n, e := Count(l, in); e != api.OK && n != 0 {
			t.Errorf("Count(%+v, %v): %d beside %v", l, in, n, e)
		}
		_, _, _, e := Row(l, in, i)
		if e != api.OK {
			expectNoRow(t, l, in, i, e)
		}
		_, f := Window(l, in, i)
		if f != api.OK {
			expectNoWindow(t, l, in, i, f)
		}
		seen[e]++
	}
	for _, e := range []api.Errno{api.OK, api.ErrArg, api.ErrKind, api.ErrCount, api.ErrField, api.ErrShape} {
		if seen[e] < 100 {
			t.Errorf("%v came up %d times only", e, seen[e])
		}
	}
}

// roomy is a list with more behind its end.
func roomy[T any](l []T, behind T) []T {
	return append(slices.Clone(l), behind, behind, behind)[:len(l)]
}

// whole tells all of a list, with the room behind its end.
func whole[T any](l []T) []T { return l[:cap(l)] }

// roomySamples are the samples, with room behind their lists.
func roomySamples() []sample {
	all := samples()
	for i := range all {
		l := &all[i].layer
		l.W, l.B = roomy(l.W, 7), roomy(l.B, 8)
		l.Z, l.ZB = roomy(l.Z, 9i), roomy(l.ZB, 10i)
	}
	return all
}

func layerText(l api.Layer) string {
	return fmt.Sprintf("%+v %v %v %v %v", l, whole(l.W), whole(l.B), whole(l.Z), whole(l.ZB))
}

// An answer is what all calls tell of one row of a layer.
type answer struct {
	cols, window []int
	w            []float64
	b            float64
}

func ask(s sample, i int) answer {
	var a answer
	a.cols, a.w, a.b, _ = Row(s.layer, s.in, i)
	a.window, _ = Window(s.layer, s.in, i)
	return a
}

func (a answer) same(b answer) bool {
	return slices.Equal(a.cols, b.cols) && slices.Equal(a.window, b.window) && sameNumbers(a.w, b.w) && oracle.Same(a.b, b.b)
}

// copied is an answer in memory of its own.
func (a answer) copied() answer {
	return answer{slices.Clone(a.cols), slices.Clone(a.window), slices.Clone(a.w), a.b}
}

// scribble writes all over an answer's lists, behind their ends too.
func (a answer) scribble() {
	for _, l := range [][]int{a.cols, a.window} {
		for i := range whole(l) {
			whole(l)[i] = -99
		}
	}
	for i := range whole(a.w) {
		whole(a.w)[i] = -99
	}
}

// 7.7: what is handed in stays as it was, the room behind it too, and whoever writes into an answer changes nothing else.
func TestAnswersAreNewMemory(t *testing.T) {
	for _, s := range roomySamples() {
		before := layerText(s.layer)
		n, _ := Count(s.layer, s.in)
		for i := -1; i <= n; i++ {
			first := ask(s, i)
			want := first.copied()
			ask(s, i).scribble()
			if !first.same(want) || !ask(s, i).same(want) || layerText(s.layer) != before {
				t.Fatalf("an answer of row %d of %+v was written into, and something else changed", i, s.layer)
			}
		}
	}
}

// 7.7: no two lists of one answer share any.
func TestListsOfAnAnswerAreApart(t *testing.T) {
	for _, s := range roomySamples() {
		n, _ := Count(s.layer, s.in)
		for i := range n {
			a := ask(s, i)
			want := a.copied()
			for k := range whole(a.cols) {
				whole(a.cols)[k] = -99
			}
			if !sameNumbers(a.w, want.w) || !slices.Equal(a.window, want.window) {
				t.Fatalf("the places of row %d of %+v were written into, and something else changed", i, s.layer)
			}
		}
	}
}

// 7.7: what was told does not hang on what becomes of the layer.
func TestNothingIsKept(t *testing.T) {
	for _, s := range samples() {
		n, _ := Count(s.layer, s.in)
		var told, want []answer
		for i := range n {
			told = append(told, ask(s, i))
			want = append(want, told[i].copied())
		}
		for _, l := range [][]float64{s.layer.W, s.layer.B} {
			for i := range l {
				l[i] = -5
			}
		}
		for _, l := range [][]complex128{s.layer.Z, s.layer.ZB} {
			for i := range l {
				l[i] = -5i
			}
		}
		for i := range told {
			if !told[i].same(want[i]) {
				t.Fatalf("row %d of the kind %d went with the layer", i, s.layer.Kind)
			}
		}
	}
}
