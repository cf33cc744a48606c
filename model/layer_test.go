package model

import (
	"math"
	"math/big"
	"testing"

	"ambit/api"
	"ambit/oracle"
)

// 6.1: every side at an edge, held against a product that no int bounds.
func TestSize(t *testing.T) {
	sides := append(hugeNumbers(), -256, -2, -1, 0, 1, 2, 3, 4, 5, 15, 16, 17, 63, 64, 65, 85, 86, 127, 128, 129, 255, 256, 257)
	for _, c := range sides {
		for _, h := range sides {
			for _, w := range sides {
				want, e := sizeByWords(shape(c, h, w))
				if n, f := Size(shape(c, h, w)); n != want || f != e {
					t.Errorf("Size(%d, %d, %d): %d %v, not %d %v", c, h, w, n, f, want, e)
				}
			}
		}
	}
}

func sizeByWords(s api.Shape) (int, api.Errno) {
	n := big.NewInt(1)
	for _, side := range []int{s.C, s.H, s.W} {
		if side < 1 {
			return 0, api.ErrShape
		}
		n.Mul(n, big.NewInt(int64(side)))
	}
	if n.Cmp(big.NewInt(api.MaxWidth)) > 0 {
		return 0, api.ErrShape
	}
	return int(n.Int64()), api.OK
}

// 6.2: the ordinary layers, and the shape that each tells.
func TestOutOfEachKind(t *testing.T) {
	want := []api.Shape{
		shape(5, 1, 1), shape(3, 4, 3), shape(2, 3, 4), shape(2, 4, 3), shape(2, 3, 4), shape(4, 1, 1),
		shape(2, 3, 4), shape(2, 3, 4), shape(2, 3, 4), shape(2, 3, 4), shape(2, 3, 4), shape(2, 4, 3),
	}
	for i, s := range samples() {
		if s.layer.Kind != i+1 {
			t.Fatalf("sample %d is of the kind %d", i, s.layer.Kind)
		}
		expectShape(t, s.layer, s.in, want[i], api.OK)
		expectLayer(t, s.layer, s.in, api.OK)
	}
}

// 6.2: a kind that is none goes ahead of all else.
func TestKindThatIsNone(t *testing.T) {
	for _, kind := range noKinds() {
		for _, s := range samples() {
			for _, in := range []api.Shape{s.in, {}} {
				l := s.layer
				l.Kind, l.Out, l.A = kind, -1, math.NaN()
				expectShape(t, l, in, api.Shape{}, api.ErrKind)
				expectLayer(t, l, in, api.ErrKind)
			}
		}
	}
}

// 6.2: each limit, and one past it. A layer with the limit may still be one whose shape is none.
func TestFieldsAtTheirLimits(t *testing.T) {
	for _, s := range samples() {
		for _, f := range fields() {
			least, most := boundsByWords(s.layer, f.name)
			tries := append(hugeNumbers(), -1, 0, 1, 2, least-1, least, most, most+1)
			for _, n := range tries {
				l := s.layer
				*f.of(&l) = n
				_, e := Out(l, s.in)
				// A window that grows smaller than its noughts makes another field wrong.
				may := fieldsByWords(l)
				if !may && e != api.ErrField || may && e != api.OK && e != api.ErrShape {
					t.Errorf("kind %d with %s %d: %v", l.Kind, f.name, n, e)
				}
			}
		}
	}
}

// fieldsByWords tells whether all whole numbers of a layer are as the chapter's table has them.
func fieldsByWords(l api.Layer) bool {
	for _, f := range fields() {
		least, most := boundsByWords(l, f.name)
		if n := *f.of(&l); n < least || n > most {
			return false
		}
	}
	return true
}

// boundsByWords is the chapter's table of the fields that a kind has.
func boundsByWords(l api.Layer, name string) (int, int) {
	windows := l.Kind == api.KConv || l.Kind == api.KMean || l.Kind == api.KMax
	switch name {
	case "Out":
		switch l.Kind {
		case api.KDense, api.KConv:
			return 1, 256
		case api.KTurn:
			return 1, 128
		}
	case "From":
		if l.Kind == api.KAdd {
			return 0, 64
		}
	case "PH":
		if windows {
			return 0, l.KH - 1
		}
	case "PW":
		if windows {
			return 0, l.KW - 1
		}
	default:
		if windows {
			return 1, 16
		}
	}
	return 0, 0
}

// 6.2: the greatest that each field may be, in layers that tell a shape.
func TestGreatestFields(t *testing.T) {
	expectShape(t, api.Layer{Kind: api.KDense, Out: 256}, line(256), shape(256, 1, 1), api.OK)
	expectShape(t, api.Layer{Kind: api.KTurn, Out: 128}, line(2), shape(256, 1, 1), api.OK)
	expectShape(t, api.Layer{Kind: api.KTurn, Out: 129}, line(2), api.Shape{}, api.ErrField)
	expectShape(t, add(64), line(2), line(2), api.OK)
	expectShape(t, add(65), line(2), api.Shape{}, api.ErrField)
	for _, kind := range []int{api.KConv, api.KMean, api.KMax} {
		expectShape(t, window(kind, 16, 16, 16, 16, 15, 15), shape(1, 16, 16), shape(1, 2, 2), api.OK)
		expectShape(t, window(kind, 17, 16, 16, 16, 15, 15), shape(1, 16, 16), api.Shape{}, api.ErrField)
		expectShape(t, window(kind, 16, 17, 16, 16, 15, 15), shape(1, 16, 16), api.Shape{}, api.ErrField)
		expectShape(t, window(kind, 16, 16, 17, 16, 15, 15), shape(1, 16, 16), api.Shape{}, api.ErrField)
		expectShape(t, window(kind, 16, 16, 16, 17, 15, 15), shape(1, 16, 16), api.Shape{}, api.ErrField)
		expectShape(t, window(kind, 16, 16, 16, 16, 16, 15), shape(1, 16, 16), api.Shape{}, api.ErrField)
		expectShape(t, window(kind, 16, 16, 16, 16, 15, 16), shape(1, 16, 16), api.Shape{}, api.ErrField)
	}
	conv := window(api.KConv, 1, 1, 1, 1, 0, 0)
	conv.Out = 256
	expectShape(t, conv, line(1), shape(256, 1, 1), api.OK)
	conv.Out = 257
	expectShape(t, conv, line(1), api.Shape{}, api.ErrField)
}

// 6.2: what A may be, by the kind.
func TestA(t *testing.T) {
	numbers := append(oracle.Edges(), oracle.MinusZero(), -oracle.Least, 1+0x1p-52)
	for _, s := range samples() {
		for _, a := range append(numbers, oracle.NoNumbers()...) {
			l := s.layer
			l.A = a
			_, e := Out(l, s.in)
			if want := aByWords(l.Kind, a); e != want {
				t.Errorf("kind %d with A %x: %v, not %v", l.Kind, a, e, want)
			}
		}
	}
}

func aByWords(kind int, a float64) api.Errno {
	isNumber := !math.IsNaN(a) && !math.IsInf(a, 0)
	switch kind {
	case api.KMean:
		if !isNumber {
			return api.ErrNumber
		}
	case api.KLeaky:
		if !isNumber {
			return api.ErrNumber
		}
		if v := oracle.Exact(a); v.Sign() < 0 || v.Cmp(big.NewRat(1, 1)) > 0 {
			return api.ErrField
		}
	default:
		if !oracle.Same(a, 0) {
			return api.ErrField
		}
	}
	return api.OK
}

// 6.2: fields are looked at ahead of A, A ahead of the shape.
func TestOrderOfFieldsAndShapes(t *testing.T) {
	none := api.Shape{}
	for _, a := range oracle.NoNumbers() {
		expectShape(t, api.Layer{Kind: api.KLeaky, A: a, From: 1}, none, none, api.ErrField)
		expectShape(t, api.Layer{Kind: api.KLeaky, A: a}, none, none, api.ErrNumber)
		mean := window(api.KMean, 9, 9, 1, 1, 0, 0)
		mean.A = a
		expectShape(t, mean, shape(1, 1, 1), none, api.ErrNumber)
		mean.PW = 9
		expectShape(t, mean, shape(1, 1, 1), none, api.ErrField)
	}
	for _, s := range samples() {
		for _, in := range []api.Shape{none, line(257), shape(-1, -1, 1), shape(1<<40, 1<<40, 1<<40), shape(math.MinInt, math.MaxInt, math.MinInt)} {
			expectShape(t, s.layer, in, none, api.ErrShape)
			expectLayer(t, s.layer, in, api.ErrShape)
			l := s.layer
			l.SW = -1
			expectShape(t, l, in, none, api.ErrField)
		}
	}
}

// 6.2: windows that just fit, and just don't; shapes told that are just small enough, and just not.
func TestWindowsThatFit(t *testing.T) {
	for _, kind := range []int{api.KConv, api.KMean, api.KMax} {
		expectShape(t, window(kind, 4, 1, 1, 1, 0, 0), shape(1, 4, 4), shape(1, 1, 4), api.OK)
		expectShape(t, window(kind, 5, 1, 1, 1, 0, 0), shape(1, 4, 4), api.Shape{}, api.ErrShape)
		expectShape(t, window(kind, 1, 5, 1, 1, 0, 0), shape(1, 4, 4), api.Shape{}, api.ErrShape)
		expectShape(t, window(kind, 6, 1, 3, 1, 1, 0), shape(1, 4, 4), shape(1, 1, 4), api.OK)
		expectShape(t, window(kind, 7, 1, 3, 1, 1, 0), shape(1, 4, 4), api.Shape{}, api.ErrShape)
		expectShape(t, window(kind, 1, 8, 1, 16, 0, 2), shape(1, 4, 4), shape(1, 4, 1), api.OK)
		expectShape(t, window(kind, 1, 9, 1, 16, 0, 2), shape(1, 4, 4), api.Shape{}, api.ErrShape)
		expectShape(t, window(kind, 2, 2, 1, 1, 1, 1), shape(1, 15, 15), shape(1, 16, 16), api.OK)
		expectShape(t, window(kind, 2, 2, 1, 1, 1, 1), shape(1, 16, 15), api.Shape{}, api.ErrShape)
		expectShape(t, window(kind, 1, 2, 1, 1, 0, 1), line(255), line(256), api.OK)
		expectShape(t, window(kind, 1, 2, 1, 1, 0, 1), line(256), api.Shape{}, api.ErrShape)
	}
	conv := window(api.KConv, 1, 1, 1, 1, 0, 0)
	conv.Out = 64
	expectShape(t, conv, shape(3, 2, 2), shape(64, 2, 2), api.OK)
	conv.Out = 65
	expectShape(t, conv, shape(3, 2, 2), api.Shape{}, api.ErrShape)
}

// 6.2: a turn asks for an even number of coordinates, however they lie.
func TestTurnOverPairs(t *testing.T) {
	for n := 1; n <= 256; n++ {
		for _, in := range []api.Shape{line(n), shape(n, 1, 1), shape(1, n, 1)} {
			if n%2 == 0 {
				expectShape(t, turn(3, n), in, shape(6, 1, 1), api.OK)
			} else {
				expectShape(t, turn(3, n), in, api.Shape{}, api.ErrShape)
			}
		}
	}
	expectShape(t, turn(1, 12), shape(3, 2, 2), shape(2, 1, 1), api.OK)
	expectShape(t, turn(1, 27), shape(3, 3, 3), api.Shape{}, api.ErrShape)
}

// 6.2: the lists are not looked at.
func TestOutLooksAtNoList(t *testing.T) {
	for _, s := range samples() {
		want, _ := Out(s.layer, s.in)
		l := s.layer
		l.W, l.B, l.Z, l.ZB = []float64{math.NaN()}, nil, complexOnes(7), []complex128{complex(math.Inf(1), 0)}
		expectShape(t, l, s.in, want, api.OK)
		w, b, z, zb, e := Lists(s.layer, s.in)
		if w2, b2, z2, zb2, e2 := Lists(l, s.in); w2 != w || b2 != b || z2 != z || zb2 != zb || e2 != e {
			t.Errorf("Lists of the kind %d hang on the lists", l.Kind)
		}
	}
}

// 6.3
func TestListsOfEachKind(t *testing.T) {
	want := [][4]int{{120, 5, 0, 0}, {36, 3, 0, 0}, {2, 2, 0, 0}, {}, {}, {0, 0, 24, 2}, {}, {}, {}, {}, {}, {}}
	for i, s := range samples() {
		w, b, z, zb, e := Lists(s.layer, s.in)
		if got := [4]int{w, b, z, zb}; got != want[i] || e != api.OK {
			t.Errorf("Lists of the kind %d: %v %v, not %v", s.layer.Kind, got, e, want[i])
		}
	}
}

// 6.3: beside an error nothing is told, and Out, Lists and Layer tell the same one.
func TestListsHandErrorsOn(t *testing.T) {
	for _, s := range samples() {
		wrongs := []sample{{s.layer, api.Shape{}}, {s.layer, line(257)}, {s.layer, s.in}, {s.layer, s.in}}
		wrongs[2].layer.Kind = 13
		wrongs[3].layer.From = -1
		for _, wrong := range wrongs {
			_, e := Out(wrong.layer, wrong.in)
			if e == api.OK {
				t.Errorf("%+v is taken", wrong)
			}
			w, b, z, zb, f := Lists(wrong.layer, wrong.in)
			if w != 0 || b != 0 || z != 0 || zb != 0 || f != e {
				t.Errorf("Lists of %+v: %d %d %d %d %v", wrong, w, b, z, zb, f)
			}
			expectLayer(t, wrong.layer, wrong.in, e)
		}
	}
}

// 6.3: each list too short and too long by one, empty, and filled where it must be empty.
func TestListsOfAnotherLength(t *testing.T) {
	for _, s := range samples() {
		w, b, z, zb, _ := Lists(s.layer, s.in)
		for _, by := range []int{-1, 1, 7, -w, -b, -z, -zb} {
			lengths := [][4]int{{w + by, b, z, zb}, {w, b + by, z, zb}, {w, b, z + by, zb}, {w, b, z, zb + by}, {w + by, b - by, z, zb}, {w, b, z + by, zb - by}}
			for _, n := range lengths {
				if min(n[0], n[1], n[2], n[3]) < 0 {
					continue
				}
				l := s.layer
				l.W, l.B, l.Z, l.ZB = ones(n[0]), ones(n[1]), complexOnes(n[2]), complexOnes(n[3])
				want := api.ErrCount
				if n == [4]int{w, b, z, zb} {
					want = api.OK
				}
				expectLayer(t, l, s.in, want)
			}
		}
	}
}

// 6.3: nil and empty lists are the same.
func TestEmptyLists(t *testing.T) {
	for _, s := range samples() {
		l := s.layer
		if l.W == nil {
			l.W, l.B = []float64{}, []float64{}
		}
		if l.Z == nil {
			l.Z, l.ZB = []complex128{}, []complex128{}
		}
		expectLayer(t, l, s.in, api.OK)
	}
}

// 6.3: what is no number is told, wherever it stands; a length goes ahead of it.
func TestListsWithNoNumbers(t *testing.T) {
	for _, s := range samples() {
		for _, none := range oracle.NoNumbers() {
			for _, l := range spoilt(s.layer, none) {
				expectLayer(t, l, s.in, api.ErrNumber)
				short, long := l, l
				if len(l.B) > 0 {
					short.B, long.B = ones(len(l.B)-1), ones(len(l.B)+1)
				} else {
					short.ZB, long.ZB = complexOnes(len(l.ZB)-1), complexOnes(len(l.ZB)+1)
				}
				expectLayer(t, short, s.in, api.ErrCount)
				expectLayer(t, long, s.in, api.ErrCount)
				long.A = math.NaN()
				expectLayer(t, long, s.in, api.ErrField)
			}
		}
	}
}

// spoilt are layers with something that is no number at one place of one list.
func spoilt(l api.Layer, none float64) []api.Layer {
	var all []api.Layer
	for _, i := range places(len(l.W)) {
		s := l
		s.W = ones(len(l.W))
		s.W[i] = none
		all = append(all, s)
	}
	for _, i := range places(len(l.B)) {
		s := l
		s.B = ones(len(l.B))
		s.B[i] = none
		all = append(all, s)
	}
	for _, z := range []complex128{complex(none, 0), complex(0, none), complex(none, none)} {
		for _, i := range places(len(l.Z)) {
			s := l
			s.Z = complexOnes(len(l.Z))
			s.Z[i] = z
			all = append(all, s)
		}
		for _, i := range places(len(l.ZB)) {
			s := l
			s.ZB = complexOnes(len(l.ZB))
			s.ZB[i] = z
			all = append(all, s)
		}
	}
	return all
}

// places are the first, a middle and the last place of a list.
func places(n int) []int {
	if n == 0 {
		return nil
	}
	return []int{0, n / 2, n - 1}
}

// 6.3: every number may stand in a list, the greatest and -0 too.
func TestListsOfAnyNumbers(t *testing.T) {
	for _, a := range append(oracle.Edges(), oracle.MinusZero()) {
		for _, s := range samples() {
			for _, l := range spoilt(s.layer, a) {
				expectLayer(t, l, s.in, api.OK)
			}
		}
	}
}

// 6.3: From is held against no layer here.
func TestFromIsNotLookedAtAlone(t *testing.T) {
	for _, from := range []int{0, 1, 63, 64} {
		expectLayer(t, add(from), line(2), api.OK)
	}
}
