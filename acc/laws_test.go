package acc

import (
	"math"
	"slices"
	"testing"

	"ambit/api"
	"ambit/oracle"
)

// A term is what is added by one call.
type term struct {
	a, b float64
	n    int
}

func terms(m *oracle.Mixer) []term {
	var l []term
	e := m.Below(1800) - 900
	for range 2 + m.Below(20) {
		far := m.Below(100)
		if m.Below(3) == 0 {
			far = m.Below(1000)
		}
		l = append(l, term{m.Number(e - far), m.Number(far - e/2), m.Below(129) - 64})
	}
	return l
}

func total(l []term) *Acc {
	x := New()
	for _, a := range l {
		x.Prod(a.a, a.b, a.n)
	}
	return x
}

// grouped is the total by three parts, one of them turned and taken away.
func grouped(l []term) *Acc {
	i, j := len(l)/3, len(l)/2
	third := slices.Clone(l[j:])
	for k := range third {
		third[k].a = -third[k].a
	}
	x := total(l[i:j])
	x.Join(total(l[:i]), false)
	x.Join(total(third), true)
	return x
}

// thereAndBack is the total with much added, and taken away again.
func thereAndBack(l []term) *Acc {
	x := total(l)
	much := power(2500).join(tiny(), true)
	x.Join(much.x, true)
	x.Add(oracle.Max)
	for _, a := range l {
		x.Prod(a.b, -a.a, 64)
		x.Prod(a.b, a.a, 64)
	}
	x.Prod(-1, oracle.Max, 0)
	x.Join(much.x, false)
	return x
}

// allTold is all that an Acc tells, alone and beside another one.
func allTold(x, y *Acc) []float64 {
	c, ok := x.Cmp(y)
	l := []float64{float64(x.Sign()), float64(c)}
	is := []bool{ok}
	for _, d := range oracle.Directions() {
		a, aok := x.Round(d)
		b, bok := x.Over(d, y)
		c, cok := y.Over(d, x)
		l, is = append(l, a, b, c), append(is, aok, bok, cok)
	}
	for _, ok := range is {
		if ok {
			l = append(l, 1)
		} else {
			l = append(l, 0)
		}
	}
	return l
}

// 3.6
func TestRealAlone(t *testing.T) {
	var m oracle.Mixer
	for range 300 {
		l := terms(&m)
		x, y := total(l), total(terms(&m))
		backwards := slices.Clone(l)
		slices.Reverse(backwards)
		want := allTold(x, y)
		for i, z := range []*Acc{total(backwards), grouped(l), thereAndBack(l), x.Copy()} {
			if !same(x, z) {
				t.Errorf("way %d: another real", i)
			}
			if got := allTold(z, y); !slices.EqualFunc(got, want, oracle.Same) {
				t.Errorf("way %d: %v, not %v", i, got, want)
			}
		}
	}
}

// against tells how a number lies to x: -1, 0 or 1, as it is below, the same or above.
func against(a float64, x *Acc) int {
	y := New()
	y.Add(a)
	c, _ := y.Cmp(x)
	return c
}

// 3.7: by the calls alone.
func TestNeighbours(t *testing.T) {
	for _, w := range reals() {
		down, isDown := w.x.Round(api.Down)
		up, isUp := w.x.Round(api.Up)
		near, isNear := w.x.Round(api.Near)
		if isDown && against(down, w.x) > 0 || isUp && against(up, w.x) < 0 {
			t.Errorf("%s lies not from %x to %x", w.text(), down, up)
		}
		if isDown && down < oracle.Max && against(math.Nextafter(down, math.Inf(1)), w.x) <= 0 {
			t.Errorf("%s has a greater number below than %x", w.text(), down)
		}
		if isUp && up > -oracle.Max && against(math.Nextafter(up, math.Inf(-1)), w.x) >= 0 {
			t.Errorf("%s has a lesser number above than %x", w.text(), up)
		}
		if isNear && !(isDown && oracle.Same(near, down)) && !(isUp && oracle.Same(near, up)) {
			t.Errorf("%x is near to %s, but none of %x and %x", near, w.text(), down, up)
		}
		if isDown && isUp && (down == up) != (against(down, w.x) == 0) {
			t.Errorf("%s is %x or lies between that and %x", w.text(), down, up)
		}
	}
}

// 3.8
func TestSumOfOne(t *testing.T) {
	var m oracle.Mixer
	l := append(oracle.Edges(), oracle.MinusZero())
	for range 1000 {
		if a := api.Float(m.Word()); !math.IsNaN(a) && !math.IsInf(a, 0) {
			l = append(l, a)
		}
	}
	for _, a := range l {
		want := a
		if a == 0 {
			want = 0
		}
		for _, d := range oracle.Directions() {
			got, ok := Sum(d, a)
			expect(t, "Sum of one", d, got, ok, want, true)
		}
	}
}

// 3.8
func TestSumTurned(t *testing.T) {
	var m oracle.Mixer
	l := oracle.Edges()
	for i := range 1000 {
		var part, turned []float64
		for range i % 7 {
			a := l[m.Below(len(l))]
			if m.Below(2) == 0 {
				a = m.Number(m.Below(200) - 100)
			}
			part, turned = append(part, a), append(turned, -a)
		}
		up, isUp := Sum(api.Up, part...)
		down, isDown := Sum(api.Down, turned...)
		expect(t, "turned over", api.Up, up, isUp, 0-down, isDown)
	}
}

// 3.9: lists that are handed in, and the room behind them, stay as they are.
func TestListsStay(t *testing.T) {
	a := []float64{1, oracle.MinusZero(), 3, math.Inf(1), 5, 6}
	b := []float64{7, 8, oracle.MinusZero(), 9, math.NaN(), 10}
	was, wasToo := slices.Clone(a), slices.Clone(b)
	for _, n := range []int{0, 3, 4, 6} {
		for _, d := range append(oracle.Directions(), oracle.NoDirections()...) {
			Sum(d, a[:n]...)
			Dot(d, a[:n], b[:n])
			Dot(d, b[:n], a[:3])
		}
	}
	if !slices.EqualFunc(a, was, oracle.Same) || !slices.EqualFunc(b, wasToo, oracle.Same) {
		t.Error("lists changed to", a, b)
	}
}

// 3.9: whatever the calls are given, they end, and tell numbers.
func TestAnything(t *testing.T) {
	var m oracle.Mixer
	given := append(append(oracle.Edges(), oracle.NoNumbers()...), oracle.MinusZero())
	pick := func() float64 {
		switch m.Below(32) {
		case 0:
			return given[m.Below(len(given))]
		case 1:
			return api.Float(m.Word())
		}
		return m.Number(m.Below(1800) - 900)
	}
	for range 2000 {
		l := []*Acc{New(), New(), New()}
		for range 30 {
			x, y := l[m.Below(3)], l[m.Below(3)]
			switch m.Below(8) {
			case 0:
				x.Add(pick())
			case 1, 2:
				x.Prod(pick(), pick(), m.Below(132)-66)
			case 3, 4:
				x.Join(y, m.Below(2) == 0)
			case 5:
				x.Abs()
			case 6:
				l[m.Below(3)] = x.Copy()
			case 7:
				for _, a := range allTold(x, y) {
					if math.IsNaN(a) || math.IsInf(a, 0) || oracle.Same(a, oracle.MinusZero()) {
						t.Fatalf("%v is told", a)
					}
				}
				x.Round(api.Dir(m.Word()))
				x.Over(api.Dir(m.Word()), y)
			}
		}
	}
}
