package acc

import (
	"math/big"
	"testing"

	"ambit/oracle"
)

// over holds what is told for x over y against the quotient of the reals.
func over(t *testing.T, x, y twin) {
	t.Helper()
	want := oracle.Roundings(new(big.Rat).Quo(x.v, y.v))
	for _, d := range oracle.Directions() {
		got, ok := x.x.Over(d, y.x)
		if !fits(got, ok, want, d) {
			t.Errorf("by %d: %x %v, not %x %v, of %s over %s", d, got, ok, want.Number[d], want.Is[d], x.text(), y.text())
		}
	}
}

// 3.4
func TestOver(t *testing.T) {
	t.Parallel()
	for _, a := range oracle.Edges() {
		for _, b := range oracle.Heights() {
			if b != 0 {
				over(t, nothing().add(a), nothing().add(b))
			}
		}
	}
}

// 3.4: of the greatest and the least reals.
func TestOverExtremes(t *testing.T) {
	t.Parallel()
	for _, x := range extremes() {
		for _, y := range extremes() {
			if y.v.Sign() != 0 {
				over(t, x, y)
			}
		}
	}
}

// 3.4: of reals of many bits.
func TestOverWide(t *testing.T) {
	t.Parallel()
	l := wide(1000)
	for i, x := range l {
		y := l[(7*i+3)%len(l)]
		if y.v.Sign() != 0 {
			before := []twin{x.copy(), y.copy()}
			over(t, x, y)
			if !same(x.x, before[0].x) || !same(y.x, before[1].x) {
				t.Error("Over changed what it was given")
			}
		}
	}
}

// rough are the parts of a real that begins with a 1 and noughts and goes on with ones, so that its first word alone tells far too little of it.
func rough() []float64 { return []float64{0x1p100, 0x1p37, -0x1p-27} }

func sum(parts []float64) twin {
	w := nothing()
	for _, a := range parts {
		w.add(a)
	}
	return w
}

// 3.4: the quotient is a number, or halfway between two, or the least bit beside.
func TestOverBetween(t *testing.T) {
	t.Parallel()
	var m oracle.Mixer
	for _, s := range steps() {
		for _, y := range [][]float64{{m.Number(m.Below(60))}, rough()} {
			x := nothing()
			for _, a := range y {
				x.prod(s.number, a, 0).prod(s.far, a, -1)
			}
			for _, x := range beside(x) {
				over(t, x, sum(y))
			}
		}
	}
}

// 3.4
func TestOverRough(t *testing.T) {
	t.Parallel()
	var m oracle.Mixer
	y := sum(rough())
	for range 200 {
		x := power(200).prod(-1-float64(m.Below(1<<30)), m.Number(150), 0).prod(m.Number(20), m.Number(20), -64)
		over(t, x, y)
		over(t, y, x)
	}
}

// 3.4
func TestOverItself(t *testing.T) {
	for _, w := range append(extremes(), wide(50)...) {
		want := 1.0
		if w.v.Sign() == 0 {
			want = 0
		}
		for _, d := range oracle.Directions() {
			got, ok := w.x.Over(d, w.x)
			expect(t, "over itself", d, got, ok, want, want == 1)
		}
	}
}

// 3.4: over nothing, nil and bad ones.
func TestOverRefuses(t *testing.T) {
	nought := nothing().prod(oracle.MinusZero(), 5, 3)
	for _, y := range append(bads(), nil, New(), nought.x) {
		for _, w := range extremes() {
			for _, d := range oracle.Directions() {
				got, ok := w.x.Over(d, y)
				expect(t, "over what may not be", d, got, ok, 0, false)
			}
		}
	}
}
