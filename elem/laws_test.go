package elem

import (
	"math"
	"testing"

	"ambit/api"
	"ambit/oracle"
)

// holds tells whether a good span holds the value that lies between two bounds.
func holds(s api.Span, low, high *rat) bool {
	return oracle.Exact(s.Lo).Cmp(low) <= 0 && high.Cmp(oracle.Exact(s.Hi)) <= 0
}

// 5.6: wherever the bounds of the value can be reckoned; beyond, the value is above 0 and below what is told at 2000.
func TestEnclosed(t *testing.T) {
	for _, f := range functions() {
		t.Run(f.name, func(t *testing.T) {
			t.Parallel()
			for _, x := range numbers() {
				s := f.tell(x)
				if s.Bad {
					continue
				}
				v := oracle.Exact(max(min(x, 2000), -2000))
				if low, high := f.real(v); !holds(s, low, high) {
					t.Errorf("%s is %s", f.at(x), text(s))
				}
			}
		})
	}
}

// 5.6
func TestWhereExpIsBad(t *testing.T) {
	max := oracle.Exact(oracle.Max)
	good, bad := 0, 0
	for _, x := range numbers() {
		// Between Max and 800 e^x is so far from Max that the bounds tell on which side it lies.
		want := x > 800
		if x > 700 && x <= 800 {
			low, high := realExp(oracle.Exact(x))
			want = high.Cmp(max) > 0
			if want != (low.Cmp(max) > 0) {
				t.Fatalf("the bounds of e^%x are too far apart", x)
			}
		}
		if Exp(x).Bad != want {
			t.Errorf("Exp(%x) is %s", x, text(Exp(x)))
		}
		if want {
			bad++
		} else {
			good++
		}
	}
	if good < 100 || bad < 20 {
		t.Error("too few that are good, or bad:", good, bad)
	}
	const last = 0x1.62e42fefa39efp9
	if Exp(709.78).Bad || Exp(last).Bad || !Exp(above(last)).Bad {
		t.Error("Exp leaves off at another number")
	}
}

// 5.7
func TestNarrow(t *testing.T) {
	for _, f := range functions() {
		for _, x := range numbers() {
			s := f.tell(x)
			if !s.Bad && (s.Lo > s.Hi || s.Hi > above(above(s.Lo))) {
				t.Errorf("%s is %s", f.at(x), text(s))
			}
		}
	}
}

// more are the rising numbers and, between them, rows of neighbours.
func more() []float64 {
	var l []float64
	for i, x := range rising() {
		l = append(l, x)
		if i%16 == 0 && math.Abs(x) < 1000 {
			for range 4 {
				x = above(x)
				l = append(l, x)
			}
		}
	}
	return l
}

// atMost tells whether both ends of a good span are at most another's.
func atMost(a, b api.Span) bool { return a.Lo <= b.Lo && a.Hi <= b.Hi }

// 5.8
func TestRising(t *testing.T) {
	for _, f := range functions()[:3] {
		var last api.Span
		at := math.Inf(-1)
		for _, x := range more() {
			s := f.tell(x)
			if s.Bad || x < at {
				continue
			}
			if !math.IsInf(at, 0) && !atMost(last, s) {
				t.Errorf("%s is %s, and at %x %s", f.at(x), text(s), at, text(last))
			}
			last, at = s, x
		}
	}
}

// 5.8
func TestFalling(t *testing.T) {
	for _, f := range functions()[3:] {
		last, at := f.tell(0), 0.0
		for _, x := range more() {
			if x < at {
				continue
			}
			s, turned := f.tell(x), f.tell(-x)
			if !atMost(s, last) || !atMost(turned, last) {
				t.Errorf("%s is %s, at %x %s, and at %x %s", f.at(x), text(s), -x, text(turned), at, text(last))
			}
			last, at = s, x
		}
	}
}

// 5.9
func TestTurnedOver(t *testing.T) {
	for _, x := range numbers() {
		s := Tanh(x)
		expect(t, "Tanh turned over", Tanh(-x), of(0-s.Hi, 0-s.Lo))
		expect(t, "SigmoidSlope turned over", SigmoidSlope(-x), SigmoidSlope(x))
		expect(t, "TanhSlope turned over", TanhSlope(-x), TanhSlope(x))
	}
}

// formed tells whether an answer is one: good without a nought with a sign, or bad and nothing else.
func formed(s api.Span) bool {
	if s.Bad {
		return same(s, none())
	}
	minus := oracle.MinusZero()
	return s.Lo <= s.Hi && isNumber(s.Lo) && isNumber(s.Hi) && !oracle.Same(s.Lo, minus) && !oracle.Same(s.Hi, minus)
}

// 5.11: whatever bits.
func TestAnything(t *testing.T) {
	var m oracle.Mixer
	for i := range 3000 {
		x, z := api.Float(m.Word()), api.Float(m.Word())
		if i%2 == 0 {
			x = m.Number(m.Below(40) - 30)
		}
		for _, f := range functions() {
			if s := f.tell(x); !formed(s) || !same(s, f.tell(x)) {
				t.Fatalf("%s: %s, then %s", f.at(x), text(s), text(f.tell(x)))
			}
		}
		s := api.Span{Lo: x, Hi: z, Bad: i%7 == 0}
		kind := m.Below(16) - 2
		if got := Of(kind, s); !formed(got) || !same(got, Of(kind, s)) {
			t.Fatalf("Of, %s: %s", named(kind, s), text(got))
		}
		got, ok := Least(kind, s)
		if again, is := Least(kind, s); !oracle.Same(got, again) || ok != is || !isNumber(got) || math.Signbit(got) || !ok && got != 0 {
			t.Fatalf("Least, %s: %x, %v", named(kind, s), got, ok)
		}
	}
}
