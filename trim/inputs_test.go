package trim

import (
	"fmt"
	"slices"
	"testing"

	"ambit/api"
	"ambit/oracle"
	"ambit/samples"
)

func numbers(l ...float64) []float64 { return l }

func ids(l ...int) []int { return l }

func lists(l ...[]float64) [][]float64 { return l }

// of is a zonotope as it is written, made by no call.
func of(c []float64, ids []int, g [][]float64, r []float64) api.Zono {
	return samples.Zonotope(c, ids, g, r)
}

// around is one about 0, without a box.
func around(n int, ids []int, g ...[]float64) api.Zono {
	return of(make([]float64, n), ids, g, make([]float64, n))
}

// first is the one of the chapter's examples.
func first() api.Zono {
	return of(numbers(0, 0), ids(3, 5, 7, 9), lists(numbers(1, 1), numbers(2, 0), numbers(0, 0), numbers(-1, 2)), numbers(0, 0.5))
}

// text is what a zonotope looks like, as far as one may want to read.
func text(z api.Zono) string {
	s := fmt.Sprintf("%+v", z)
	return s[:min(len(s), 1000)]
}

func expectOrder(t *testing.T, z api.Zono, want ...int) {
	t.Helper()
	if got := Order(z); !slices.Equal(got, want) {
		t.Errorf("Order of %s: %v, not %v", text(z), got, want)
	}
}

func expectReduce(t *testing.T, z api.Zono, most int, want api.Zono) {
	t.Helper()
	if got := Reduce(z, most); !samples.SameZono(got, want) {
		t.Errorf("Reduce of %s to %d: %s, not %s", text(z), most, text(got), text(want))
	}
}

// turnedRound is a column of the same sizes at other places, with other signs: so its loss is the same.
func turnedRound(m *oracle.Mixer, g []float64) []float64 {
	by := m.Below(len(g))
	l := append(slices.Clone(g[by:]), g[:by]...)
	for i := range l {
		if m.Below(2) == 0 {
			l[i] = -l[i]
		}
	}
	return l
}

// mixed is a zonotope of at most seven columns, often of some that have the same loss.
func mixed(m *oracle.Mixer) api.Zono {
	z := samples.MixedZono(m, 1+m.Below(4))
	for range m.Below(4) {
		if k := len(z.G); k > 0 && k < 7 {
			z.G = slices.Insert(z.G, m.Below(k), turnedRound(m, z.G[m.Below(k)]))
			z.Ids = append(z.Ids, 0)
		}
	}
	step := []int{1, 2, 1000, api.MaxId / 7}[m.Below(4)]
	for k := range z.Ids {
		z.Ids[k] = k*step + m.Below(step)
	}
	return z
}

// whatever is one of these, or what samples have.
func whatever(m *oracle.Mixer) api.Zono {
	if m.Below(4) == 0 {
		return samples.AnyZono(m)
	}
	return mixed(m)
}
