package point

import (
	"bytes"
	"fmt"
	"math"
	"math/big"
	"slices"
	"testing"

	"ambit/api"
	"ambit/oracle"
	"ambit/samples"
)

func numbers(l ...float64) []float64 { return l }

func dyads(l ...api.Dyad) []api.Dyad { return l }

// dyad is an exact number as it is written, made by no call.
func dyad(m, e int) api.Dyad {
	x := api.Dyad{Neg: m < 0, E: e}
	for size := max(m, -m); size > 0; size /= 256 {
		x.M = append([]byte{byte(size % 256)}, x.M...)
	}
	return x
}

// wholes are whole numbers as exact ones.
func wholes(l ...int64) []api.Dyad {
	var all []api.Dyad
	for _, n := range l {
		all = append(all, formed(big.NewRat(n, 1)))
	}
	return all
}

// turned is x with the other sign; 0 stays.
func turned(x api.Dyad) api.Dyad {
	x.Neg = !x.Neg && len(x.M) > 0
	return x
}

// ones is the whole number of n bits that are all 1.
func ones(n int) api.Dyad {
	return formed(new(big.Rat).Sub(oracle.Power(n), big.NewRat(1, 1)))
}

// ends is the odd whole number of n bits of which only the first and the last are 1.
func ends(n int) api.Dyad {
	return formed(new(big.Rat).Add(oracle.Power(n-1), big.NewRat(1, 1)))
}

// raised is x with another power of 2.
func raised(x api.Dyad, e int) api.Dyad {
	x.E = e
	return x
}

func values(l []api.Dyad) []*big.Rat {
	var all []*big.Rat
	for _, x := range l {
		all = append(all, oracle.Value(x))
	}
	return all
}

// formed is the form of a real that is small enough.
func formed(v *big.Rat) api.Dyad {
	x, ok := oracle.Form(v)
	if !ok {
		panic("too long")
	}
	return x
}

// exactly is a number's exact one.
func exactly(a float64) api.Dyad { return formed(oracle.Exact(a)) }

func exacts(l ...float64) []api.Dyad {
	var all []api.Dyad
	for _, a := range l {
		all = append(all, exactly(a))
	}
	return all
}

func same(a, b api.Dyad) bool { return oracle.SameDyad(a, b) }

func sameAll(a, b []api.Dyad) bool { return slices.EqualFunc(a, b, same) }

// text is what something looks like, as far as one may want to read.
func text(what any) string {
	s := fmt.Sprintf("%+v", what)
	return s[:min(len(s), 400)]
}

// nones are no exact numbers, or too long ones, each in another way.
func nones() []api.Dyad {
	return []api.Dyad{
		{Neg: true}, {E: 1}, {E: -1}, {Neg: true, E: 3}, {E: math.MaxInt}, {E: math.MinInt}, {M: []byte{}, E: 1}, {Neg: true, M: []byte{}},
		{M: []byte{0}}, {M: []byte{0}, E: 5}, {Neg: true, M: []byte{0}}, {M: []byte{0, 0}}, {M: []byte{0, 1}}, {M: []byte{0, 0, 7}, E: -4}, {M: append([]byte{0}, ones(65536).M...)},
		{M: []byte{2}}, {M: []byte{128}}, {Neg: true, M: []byte{254}}, {M: []byte{1, 0}}, {M: []byte{1, 1, 2}, E: 9}, {M: []byte{0, 2}},
		{M: append([]byte{1}, ones(65536).M...)}, {M: append([]byte{1}, ones(65536).M...), E: -65536}, {Neg: true, M: append([]byte{255}, ones(65536).M...)}, {M: bytes.Repeat([]byte{1}, 8193)}, {M: bytes.Repeat([]byte{1}, 100000)},
		dyad(1, 65537), dyad(-1, 65537), dyad(1, -65537), dyad(-3, -65537), dyad(1, 1<<32), dyad(1, -1<<32), dyad(1, math.MaxInt), dyad(1, math.MinInt), raised(ones(65536), 65537), raised(ones(65536), -65537),
	}
}

// edges are exact numbers at which something changes.
func edges() []api.Dyad {
	all := []api.Dyad{
		{}, dyad(1, 0), dyad(3, 0), dyad(255, 0), dyad(257, 0), dyad(0x8001, -7), dyad(1, 65536), dyad(1, 65535), dyad(1, -65536), dyad(1, -65535), dyad(3, 65536), dyad(3, 65535), dyad(3, -65536), dyad(1, 1), dyad(1, -1),
		ones(65536), ends(65536), raised(ones(65536), -65536), raised(ends(65536), -65536), raised(ones(65536), 65536), ones(65535), ends(65535), ones(32768), ends(32768), ones(32769), ends(32769),
		exactly(oracle.Least), exactly(oracle.Max), exactly(0.1), exactly(0x1p-1022), dyad(1, 1024), dyad(1, -1075), dyad(3, -1076), ones(62), ones(63), ends(64), ends(65),
	}
	for _, x := range all[1:] {
		all = append(all, turned(x))
	}
	return all
}

// someDyad is an exact number that is small enough, often one that was seen before, and not very long.
func someDyad(m *oracle.Mixer) api.Dyad {
	switch m.Below(8) {
	case 0:
		return api.Dyad{}
	case 1:
		return exactly(samples.MixedNumber(m))
	case 2:
		return exactly(m.Number(0))
	case 3:
		return dyad(2*m.Below(8)-7, m.Below(9)-4)
	}
	x := api.Dyad{Neg: m.Below(2) == 0, E: m.Below(300) - 150}
	if m.Below(4) == 0 {
		x.E = m.Below(5000) - 2500
	}
	for range 1 + m.Below(24) {
		x.M = append(x.M, byte(m.Word()))
	}
	x.M[0], x.M[len(x.M)-1] = max(x.M[0], 1), x.M[len(x.M)-1]|1
	return x
}

func someDyads(m *oracle.Mixer, n int) []api.Dyad {
	var all []api.Dyad
	for range n {
		all = append(all, someDyad(m))
	}
	return all
}

// farDyads are some of which one is often so great or so small that little more makes it too long.
func farDyads(m *oracle.Mixer, n int) []api.Dyad {
	all := someDyads(m, n)
	if n == 0 || m.Below(5) > 0 {
		return all
	}
	if x := &all[m.Below(n)]; len(x.M) > 0 {
		x.E = []int{65536, 65000, 33000, -33000, -65000, -65536}[m.Below(6)]
	}
	return all
}

// anyDyad may be none.
func anyDyad(m *oracle.Mixer) api.Dyad {
	if m.Below(12) == 0 {
		return nones()[m.Below(len(nones()))]
	}
	x := someDyad(m)
	if m.Below(12) == 0 {
		x.E = samples.AnyWhole(m)
	}
	return x
}

// netOf is a network of these layers.
func netOf(in api.Shape, layers ...api.Layer) api.Net { return api.Net{In: in, Layers: layers} }

// kind is a layer that has nothing but its kind.
func kind(k int) api.Layer { return api.Layer{Kind: k} }

// dense is a layer of one row.
func dense(b float64, w ...float64) api.Layer {
	return api.Layer{Kind: api.KDense, Out: 1, W: w, B: numbers(b)}
}

// width is how many coordinates a network's input has.
func width(n api.Net) int { return n.In.C * n.In.H * n.In.W }

// expectOne holds a call that tells one exact number to what it must tell: to x, if e is OK.
func expectOne(t *testing.T, what string, got api.Dyad, f api.Errno, x api.Dyad, e api.Errno) {
	t.Helper()
	if e != api.OK {
		x = api.Dyad{}
	}
	if f != e || !same(got, x) {
		t.Errorf("%s: %s %v, not %s %v", what, text(got), f, text(x), e)
	}
}

// An operation is one of two exact numbers.
type operation struct {
	name  string
	do    func(x, y api.Dyad) (api.Dyad, api.Errno)
	exact func(z, x, y *big.Rat) *big.Rat
}

func operations() []operation {
	return []operation{{"Add", Add, (*big.Rat).Add}, {"Sub", Sub, (*big.Rat).Sub}, {"Mul", Mul, (*big.Rat).Mul}}
}

func (o operation) expect(t *testing.T, x, y, want api.Dyad, e api.Errno) {
	t.Helper()
	got, f := o.do(x, y)
	expectOne(t, fmt.Sprintf("%s(%s, %s)", o.name, text(x), text(y)), got, f, want, e)
}

func expectMake(t *testing.T, neg bool, m []byte, e int, want api.Dyad, f api.Errno) {
	t.Helper()
	got, g := Make(neg, m, e)
	expectOne(t, fmt.Sprintf("Make(%v, %s, %d)", neg, text(m), e), got, g, want, f)
}

func expectShift(t *testing.T, x api.Dyad, n int, want api.Dyad, e api.Errno) {
	t.Helper()
	got, f := Shift(x, n)
	expectOne(t, fmt.Sprintf("Shift(%s, %d)", text(x), n), got, f, want, e)
}

func expectClaim(t *testing.T, a []float64, y []api.Dyad, want api.Dyad, e api.Errno) {
	t.Helper()
	got, f := Claim(a, y)
	expectOne(t, fmt.Sprintf("Claim(%s, %s)", text(a), text(y)), got, f, want, e)
}

func expectOf(t *testing.T, a float64, want api.Dyad, is bool) {
	t.Helper()
	if got, ok := Of(a); ok != is || !same(got, want) {
		t.Errorf("Of(%x): %s %v, not %s %v", a, text(got), ok, text(want), is)
	}
}

func expectCmp(t *testing.T, x, y api.Dyad, want int, is bool) {
	t.Helper()
	if got, ok := Cmp(x, y); got != want || ok != is {
		t.Errorf("Cmp(%s, %s): %d %v, not %d %v", text(x), text(y), got, ok, want, is)
	}
}

func expectRound(t *testing.T, d api.Dir, x api.Dyad, want float64, is bool) {
	t.Helper()
	if got, ok := Round(d, x); !oracle.Same(got, want) || ok != is {
		t.Errorf("Round(%d, %s): %x %v, not %x %v", d, text(x), got, ok, want, is)
	}
}

// expectInput holds Input to the point x, if e is OK, else to e alone.
func expectInput(t *testing.T, p api.Prop, e []int, depth int, x []api.Dyad, f api.Errno) {
	t.Helper()
	if got, g := Input(p, e, depth); g != f || !sameAll(got, x) {
		t.Errorf("Input(%s, %s, %d): %s %v, not %s %v", text(p), text(e), depth, text(got), g, text(x), f)
	}
}

// expectEval holds Eval to the outputs y.
func expectEval(t *testing.T, n api.Net, x, y []api.Dyad) {
	t.Helper()
	expectEvalOr(t, n, x, y, api.OK, 0)
}

// expectNoEval holds Eval to an error and its place alone.
func expectNoEval(t *testing.T, n api.Net, x []api.Dyad, e api.Errno, at int) {
	t.Helper()
	expectEvalOr(t, n, x, nil, e, at)
}

func expectEvalOr(t *testing.T, n api.Net, x, y []api.Dyad, e api.Errno, at int) {
	t.Helper()
	if got, f, place := Eval(n, x); f != e || place != at || !sameAll(got, y) {
		t.Errorf("Eval(%s, %s): %s %v at %d, not %s %v at %d", text(n), text(x), text(got), f, place, text(y), e, at)
	}
}
