package elem

import (
	"fmt"
	"math"
	"math/big"
	"testing"

	"ambit/api"
	"ambit/oracle"
)

// The chapter's words once more, by fractions: nothing is shared with the package.

type (
	rat = big.Rat
	num = big.Int
)

const words = "1480553391661173448385607439722553250922680800745876974795605978609098082859138712941075737848984"

func plus(a, b *rat) *rat    { return new(rat).Add(a, b) }
func minus(a, b *rat) *rat   { return new(rat).Sub(a, b) }
func times(a, b *rat) *rat   { return new(rat).Mul(a, b) }
func over(a, b *rat) *rat    { return new(rat).Quo(a, b) }
func count(n int64) *rat     { return big.NewRat(n, 1) }
func ofInt(a *num) *rat      { return new(rat).SetInt(a) }
func floor(a *rat) *rat      { return ofInt(new(num).Div(a.Num(), a.Denom())) }
func ceiling(a *rat) *rat    { return new(rat).Neg(floor(new(rat).Neg(a))) }
func greater(a, b *rat) *rat { return []*rat{b, a, a}[a.Cmp(b)+1] }
func lesser(a, b *rat) *rat  { return []*rat{a, a, b}[a.Cmp(b)+1] }
func squared(a *rat) *rat    { return times(a, a) }
func exact(x float64) *rat   { return oracle.Exact(math.Abs(x)) }
func twoTo(n int) *rat       { return oracle.Power(n) }
func between(p, q *rat) api.Span {
	lo, hi := oracle.Roundings(p), oracle.Roundings(q)
	if !lo.Is[api.Down] || !hi.Is[api.Up] {
		return none()
	}
	return of(lo.Number[api.Down], hi.Number[api.Up])
}

// twinBracket is A, B and M of a y.
func twinBracket(y *rat) (a, b, m *rat) {
	l, ok := new(rat).SetString(words)
	if !ok {
		panic("no L")
	}
	more := plus(l, count(1))
	n := floor(over(times(y, twoTo(320)), more))
	r := ceiling(times(twoTo(192), minus(y, over(times(n, l), twoTo(320)))))
	s := floor(times(twoTo(192), minus(y, over(times(n, more), twoTo(320)))))

	f, g := twinTerms(r)
	a = new(rat)
	for k := 0; k <= 60; k += 2 {
		a = minus(plus(a, f[k]), g[k+1])
	}
	f, g = twinTerms(s)
	b = g[0]
	for k := 2; k <= 60; k += 2 {
		b = minus(plus(b, g[k]), f[k-1])
	}
	return a, lesser(b, twoTo(192)), twoTo(192 + int(n.Num().Int64()))
}

// twinTerms are f_0 to f_61 and g_0 to g_61 of a T.
func twinTerms(t *rat) (f, g []*rat) {
	f, g = []*rat{twoTo(192)}, []*rat{twoTo(192)}
	for k := 1; k <= 61; k++ {
		by := times(count(int64(k)), twoTo(192))
		f = append(f, floor(over(times(f[k-1], t), by)))
		g = append(g, ceiling(over(times(g[k-1], t), by)))
	}
	return f, g
}

func isNumber(x float64) bool { return !math.IsNaN(x) && !math.IsInf(x, 0) }

func twinExp(x float64) api.Span {
	switch {
	case !isNumber(x) || x > 800:
		return none()
	case x < -800:
		return of(0, 0x1p-1074)
	}
	a, b, m := twinBracket(exact(x))
	if x >= 0 {
		return between(over(m, b), over(m, a))
	}
	return between(over(a, m), over(b, m))
}

func twinSigmoid(x float64) api.Span {
	switch {
	case !isNumber(x):
		return none()
	case x < -800:
		return of(0, 0x1p-1074)
	case x > 800:
		return of(1-0x1p-53, 1)
	}
	a, b, m := twinBracket(exact(x))
	if x >= 0 {
		return between(over(m, plus(m, b)), over(m, plus(m, a)))
	}
	return between(over(a, plus(m, a)), over(b, plus(m, b)))
}

func twinTanh(x float64) api.Span {
	switch {
	case !isNumber(x):
		return none()
	case x < -400:
		return of(-1, -1+0x1p-53)
	case x > 400:
		return of(1-0x1p-53, 1)
	}
	y := exact(x)
	a, b, m := twinBracket(plus(y, y))
	lo := greater(new(rat), minus(y, over(times(y, squared(y)), count(3))))
	s := between(greater(lo, over(minus(m, b), plus(m, b))), lesser(y, over(minus(m, a), plus(m, a))))
	if x < 0 {
		s = of(0-s.Hi, 0-s.Lo)
	}
	return s
}

func twinSigmoidSlope(x float64) api.Span {
	switch {
	case !isNumber(x):
		return none()
	case math.Abs(x) > 800:
		return of(0, 0x1p-1074)
	}
	return twinSlope(exact(x), 1)
}

func twinTanhSlope(x float64) api.Span {
	switch {
	case !isNumber(x):
		return none()
	case math.Abs(x) > 400:
		return of(0, 0x1p-1074)
	}
	return twinSlope(plus(exact(x), exact(x)), 4)
}

func twinSlope(y *rat, by int64) api.Span {
	a, b, m := twinBracket(y)
	end := func(v *rat) *rat { return over(times(count(by), times(v, m)), squared(plus(m, v))) }
	return between(end(a), end(b))
}

// 5.1 to 5.4, to the last bit.
func TestTwins(t *testing.T) {
	for _, f := range functions() {
		t.Run(f.name, func(t *testing.T) {
			t.Parallel()
			for _, x := range append(numbers(), oracle.NoNumbers()...) {
				expect(t, f.at(x), f.tell(x), f.twin(x))
			}
		})
	}
}

// The bracket, to its last unit: the functions' ends show little of it.
func TestBracket(t *testing.T) {
	for _, y := range points() {
		if y > 1600 {
			continue
		}
		got := bracketOf(y)
		a, b, m := twinBracket(exact(y))
		for i, p := range [][2]*rat{{ofInt(got.low), a}, {ofInt(got.high), b}, {ofInt(got.unit), m}} {
			if p[0].Cmp(p[1]) != 0 {
				t.Errorf("bracket of %x: the %d-th is %v, not %v", y, i, p[0], p[1])
			}
		}
	}
}

// The bracket's L is as the chapter says: the greatest whole number not above 2^320 ln 2.
func TestLogarithm(t *testing.T) {
	// ln 2 is the sum of 1 / (k 2^k), and what is left of it behind k = last is less than 2^-last.
	const last = 400
	low := new(rat)
	for k := 1; k <= last; k++ {
		low.Add(low, over(twoTo(-k), count(int64(k))))
	}
	want := floor(times(low, twoTo(320)))
	if high := plus(low, twoTo(-last)); floor(times(high, twoTo(320))).Cmp(want) != 0 {
		t.Fatal("too few terms")
	}
	if got := ofInt(logBelow()); got.Cmp(want) != 0 {
		t.Errorf("L is %v, not %v", got, want)
	}
}

// 5.1 to 5.4: down and up of quotients that round to every kind of number, those beyond Max and below the least one among them.
func TestTold(t *testing.T) {
	var m oracle.Mixer
	whole := func(bits int) *num {
		v := new(num).SetUint64(m.Word() | 1<<63)
		v.Lsh(v, 200).Add(v, new(num).SetUint64(m.Word()))
		return v.Rsh(v, uint(264-bits))
	}
	for i := range 3000 {
		p, q := whole(1+m.Below(260)), whole(1+m.Below(260))
		p.Lsh(p, uint(m.Below(2)*m.Below(1300)))
		q.Lsh(q, uint(m.Below(2)*m.Below(1300)))
		if i%5 == 0 {
			q = new(num).Lsh(big.NewInt(1), uint(m.Below(1400)))
		}
		want := oracle.Roundings(new(rat).SetFrac(p, q))
		for _, d := range []api.Dir{api.Up, api.Down} {
			got, ok := told(d, p, q)
			if ok != want.Is[d] || !oracle.Same(got, want.Number[d]) {
				t.Fatalf("%v / %v by %d: %x %v, not %x %v", p, q, d, got, ok, want.Number[d], want.Is[d])
			}
		}
	}
	if a, ok := told(api.Up, new(num), big.NewInt(7)); !ok || !oracle.Same(a, 0) {
		t.Error("0 / 7 is told as", a, ok)
	}
}

// names of spans in failures.
func named(kind int, s api.Span) string { return fmt.Sprintf("kind %d over %s", kind, text(s)) }
