package elem

import (
	"math"
	"testing"

	"ambit/api"
	"ambit/oracle"
)

// The examples of the chapter, one by one (5.1 to 5.5).
func TestExamples(t *testing.T) {
	const e, u = oracle.Least, 0x1p-53
	for i, l := range [][2]api.Span{
		{Exp(0), of(1, 1)},
		{Exp(oracle.MinusZero()), of(1, 1)},
		{Exp(1), of(0x1.5bf0a8b145769p+1, 0x1.5bf0a8b14576ap+1)},
		{Exp(800), none()},
		{Exp(-800), of(0, e)},
		{Exp(-801), of(0, e)},
		{Exp(math.NaN()), none()},
		{Exp(e), of(1, 1+2*u)},
		{Exp(-e), of(1-u, 1)},
		{Sigmoid(0), of(0.5, 0.5)},
		{Sigmoid(1000), of(1-u, 1)},
		{Sigmoid(-1000), of(0, e)},
		{Tanh(0), of(0, 0)},
		{Tanh(e), of(0, e)},
		{Tanh(-e), of(-e, 0)},
		{Tanh(30), of(1-u, 1)},
		{Tanh(500), of(1-u, 1)},
		{SigmoidSlope(0), of(0.25, 0.25)},
		{TanhSlope(0), of(1, 1)},
		{TanhSlope(500), of(0, e)},
		{Of(api.KTanh, of(-1, 1)), of(Tanh(-1).Lo, Tanh(1).Hi)},
		{Of(api.KRelu, of(0, 1)), none()},
	} {
		if !same(l[0], l[1]) {
			t.Errorf("example %d: %s, not %s", i, text(l[0]), text(l[1]))
		}
	}
	if a, ok := Least(api.KSigmoid, of(-1, 2)); !ok || !oracle.Same(a, SigmoidSlope(2).Lo) {
		t.Errorf("Least: %x, %v", a, ok)
	}
}

// 5.1 to 5.4: at and about the numbers at which the functions leave off.
func TestEdges(t *testing.T) {
	const e, u = oracle.Least, 0x1p-53
	for i, l := range [][2]api.Span{
		{Exp(above(800)), none()},
		{Exp(oracle.Max), none()},
		{Exp(below(-800)), of(0, e)},
		{Exp(-oracle.Max), of(0, e)},
		{Exp(-744.44), of(e, 2*e)},
		{Exp(-744.45), of(0, e)},
		{Sigmoid(800), of(1-u, 1)},
		{Sigmoid(above(800)), of(1-u, 1)},
		{Sigmoid(oracle.Max), of(1-u, 1)},
		{Sigmoid(-800), of(0, e)},
		{Sigmoid(below(-800)), of(0, e)},
		{Sigmoid(-oracle.Max), of(0, e)},
		{Sigmoid(oracle.MinusZero()), of(0.5, 0.5)},
		{Sigmoid(e), of(0.5, 0.5+u)},
		{Sigmoid(-e), of(0.5-u/2, 0.5)},
		{Tanh(400), of(1-u, 1)},
		{Tanh(above(400)), of(1-u, 1)},
		{Tanh(oracle.Max), of(1-u, 1)},
		{Tanh(-400), of(-1, -1+u)},
		{Tanh(below(-400)), of(-1, -1+u)},
		{Tanh(-oracle.Max), of(-1, -1+u)},
		{Tanh(oracle.MinusZero()), of(0, 0)},
		{Tanh(3 * e), of(2*e, 3*e)},
		{Tanh(-3 * e), of(-3*e, -2*e)},
		{Tanh(0x1p-100), of(0x1p-100-0x1p-153, 0x1p-100)},
		{SigmoidSlope(800), of(0, e)},
		{SigmoidSlope(-800), of(0, e)},
		{SigmoidSlope(above(800)), of(0, e)},
		{SigmoidSlope(-oracle.Max), of(0, e)},
		{SigmoidSlope(e), of(0.25-u/4, 0.25)},
		{SigmoidSlope(oracle.MinusZero()), of(0.25, 0.25)},
		{TanhSlope(400), of(0, e)},
		{TanhSlope(-400), of(0, e)},
		{TanhSlope(below(-400)), of(0, e)},
		{TanhSlope(oracle.Max), of(0, e)},
		{TanhSlope(-e), of(1-u, 1)},
	} {
		if !same(l[0], l[1]) {
			t.Errorf("edge %d: %s, not %s", i, text(l[0]), text(l[1]))
		}
	}
}

// 5.1 to 5.4: of what is no number each answer is bad.
func TestNoNumbers(t *testing.T) {
	for _, f := range functions() {
		for _, x := range oracle.NoNumbers() {
			expect(t, f.at(x), f.tell(x), none())
		}
	}
}
