package point

import (
	"fmt"
	"math/big"
	"testing"

	"ambit/api"
	"ambit/model"
	"ambit/oracle"
	"ambit/samples"
)

// A second point, of exact fractions, by the words of the chapter.

func plus(a, b *big.Rat) *big.Rat { return new(big.Rat).Add(a, b) }

func times(a, b *big.Rat) *big.Rat { return new(big.Rat).Mul(a, b) }

// wantInput is the point of a question that may be asked for.
func wantInput(p api.Prop, e []int, depth int) []api.Dyad {
	var all []api.Dyad
	for i, c := range p.C {
		v := oracle.Exact(c)
		for s, g := range p.G {
			v = plus(v, times(times(big.NewRat(int64(e[s]), 1), oracle.Power(-depth)), oracle.Exact(g[i])))
		}
		all = append(all, formed(v))
	}
	return all
}

// toldBy is what layer m tells of the outputs ahead of it.
func toldBy(n api.Net, shapes []api.Shape, m int, outputs [][]*big.Rat) []*big.Rat {
	l := n.Layers[m-1]
	all, _ := oracle.Told(l, shapes[m-1], shapes[m], outputs[m-1], outputs[l.From])
	return all
}

// forms are the forms of reals, and whether all of them are small enough.
func forms(l []*big.Rat) ([]api.Dyad, bool) {
	var all []api.Dyad
	for _, v := range l {
		x, ok := oracle.Form(v)
		if !ok {
			return nil, false
		}
		all = append(all, x)
	}
	return all, true
}

// wantEval is what Eval tells of any network and any point.
func wantEval(n api.Net, x []api.Dyad) ([]api.Dyad, api.Errno, int) {
	shapes, e, at := model.Shapes(n)
	if e != api.OK {
		return nil, e, at
	}
	if len(x) != width(n) {
		return nil, api.ErrCount, 0
	}
	for _, a := range x {
		if Check(a) != api.OK {
			return nil, api.ErrArg, 0
		}
	}
	for m, l := range n.Layers {
		if l.Kind == api.KTanh || l.Kind == api.KSigmoid {
			return nil, api.ErrKind, m + 1
		}
	}
	outputs, y := [][]*big.Rat{values(x)}, x
	for m := range n.Layers {
		out := toldBy(n, shapes, m+1, outputs)
		all, ok := forms(out)
		if !ok {
			return nil, api.ErrBits, m + 1
		}
		outputs, y = append(outputs, out), all
	}
	return y, api.OK, 0
}

// expectTwin holds Eval to the twin, and tells the error of both.
func expectTwin(t *testing.T, n api.Net, x []api.Dyad) api.Errno {
	t.Helper()
	y, e, at := wantEval(n, x)
	expectEvalOr(t, n, x, y, e, at)
	return e
}

// 14.6: the same answers, of every kind that Eval takes; some are too long.
func TestTwinOfEval(t *testing.T) {
	t.Parallel()
	var m oracle.Mixer
	seen := oracle.Tally{}
	for range 1500 {
		n := samples.NetOfKinds(&m, samples.ExactKinds(), 0)
		e := expectTwin(t, n, farDyads(&m, width(n)))
		if t.Failed() {
			return
		}
		seen.Note("too long", e == api.ErrBits)
		seen.Note("no layers", len(n.Layers) == 0)
		for _, l := range n.Layers {
			seen.Note(fmt.Sprintf("kind %d", l.Kind), e == api.OK)
			seen.Note("windows", e == api.OK && l.KH*l.KW > 1)
			seen.Note("padding", e == api.OK && l.PH+l.PW > 0)
			seen.Note("a sum with what is far ahead", l.Kind == api.KAdd && l.From+2 < len(n.Layers))
		}
	}
	seen.Expect(t, 20, "too long", "no layers", "windows", "padding", "a sum with what is far ahead")
	for _, k := range samples.ExactKinds() {
		seen.Expect(t, 100, fmt.Sprintf("kind %d", k))
	}
}

// 14.6: likewise whatever network it is, and whatever point.
func TestTwinOfAnyEval(t *testing.T) {
	t.Parallel()
	var m oracle.Mixer
	seen := map[api.Errno]int{}
	for range 4000 {
		n := samples.AnyNet(&m)
		if m.Below(2) == 0 {
			n = samples.NetOfKinds(&m, append(samples.ExactKinds(), api.KTanh, api.KSigmoid), 0)
		}
		size, _ := model.Size(n.In)
		if m.Below(10) == 0 {
			size = max(0, size+m.Below(3)-1)
		}
		x := farDyads(&m, size)
		if len(x) > 0 && m.Below(6) == 0 {
			x[m.Below(len(x))] = anyDyad(&m)
		}
		seen[expectTwin(t, n, x)]++
		if t.Failed() {
			return
		}
	}
	for _, e := range []api.Errno{api.OK, api.ErrCount, api.ErrArg, api.ErrKind, api.ErrBits, api.ErrShape, api.ErrField, api.ErrName} {
		if seen[e] < 10 {
			t.Errorf("%v came up %d times only", e, seen[e])
		}
	}
}

// 14.5: the same points.
func TestTwinOfInput(t *testing.T) {
	t.Parallel()
	var m oracle.Mixer
	for range 1500 {
		n, k, depth := m.Below(4), m.Below(5), m.Below(63)
		if m.Below(3) == 0 {
			depth = m.Below(4)
		}
		p := api.Prop{C: samples.MixedNumbers(&m, n), G: samples.MixedLists(&m, k, n)}
		var e []int
		for range k {
			part := int(m.Word()>>1) % (1<<depth + 1)
			switch m.Below(6) {
			case 0:
				part = 1 << depth
			case 1:
				part = 0
			}
			if m.Below(2) == 0 {
				part = -part
			}
			e = append(e, part)
		}
		expectInput(t, p, e, depth, wantInput(p, e, depth), api.OK)
	}
}

// 14.7: the same sums.
func TestTwinOfClaim(t *testing.T) {
	t.Parallel()
	var m oracle.Mixer
	for range 2000 {
		a := samples.MixedNumbers(&m, 1+m.Below(6))
		y := farDyads(&m, len(a)-1)
		v := oracle.Exact(a[len(y)])
		for i, x := range y {
			v = plus(v, times(oracle.Exact(a[i]), oracle.Value(x)))
		}
		want, ok := oracle.Form(v)
		expectClaim(t, a, y, want, errnoOf(ok))
	}
}
