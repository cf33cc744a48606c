package verify

import (
	"fmt"
	"slices"
	"testing"

	"ambit/api"
	"ambit/code"
	"ambit/oracle"
	"ambit/samples"
)

const (
	most  = oracle.Max
	least = oracle.Least
)

func numbers(l ...float64) []float64 { return l }

func lists(l ...[]float64) [][]float64 { return l }

func wholes(l ...int) []int { return l }

func region(pairs ...int) api.Region { return samples.Region(pairs...) }

// kind is a layer that has nothing but its kind.
func kind(k int) api.Layer { return api.Layer{Kind: k} }

// dense is a KDense with these numbers.
func dense(w, b []float64) api.Layer {
	return api.Layer{Kind: api.KDense, Out: len(b), W: w, B: b}
}

// scale is a KScale of one channel.
func scale(w, b float64) api.Layer {
	return api.Layer{Kind: api.KScale, W: numbers(w), B: numbers(b)}
}

// netOf is a network of these layers over so many coordinates.
func netOf(width int, layers ...api.Layer) api.Net {
	return api.Net{In: samples.Line(width), Layers: layers}
}

// asked is a question of further claims alone, with as much of every budget as may be.
func asked(claims [][]float64, c []float64, g ...[]float64) api.Prop {
	return api.Prop{C: c, G: g, Target: -1, Claims: claims, K: api.MaxK, Depth: api.MaxDepth, Looks: api.MaxLooks}
}

// within is a question with these budgets.
func within(p api.Prop, depth, looks int) api.Prop {
	p.Depth, p.Looks = depth, looks
	return p
}

// example is the network and the question of the chapter's examples, with or without the further claim.
func example(further bool) (api.Net, api.Prop) {
	n := netOf(2, dense(numbers(1, 1, 1, -1), numbers(0, 0)))
	p := api.Prop{C: numbers(0.5, 0.25), G: lists(numbers(1, 0)), K: 2, Looks: 1}
	if further {
		p.Claims = lists(numbers(1, 0, 0))
	}
	return n, p
}

// bumps are a network over one coordinate, with an output each: 0 but near the places, where it has a bump of that height, and a quarter to either side.
func bumps(height float64, places ...[]float64) api.Net {
	var w, b, sum []float64
	for _, at := range slices.Concat(places...) {
		w, b = append(w, 1, 1, 1), append(b, 0.25-at, -at, -0.25-at)
	}
	for row := range places {
		for other, l := range places {
			for range l {
				h := 4 * height
				if other != row {
					h = 0
				}
				sum = append(sum, h, -2*h, h)
			}
		}
	}
	return netOf(1, dense(w, b), samples.Relu(), dense(sum, make([]float64, len(places))))
}

// kinks are a network over one coordinate that tells 0 everywhere; zonotopes lose something where a region has one of the places within.
func kinks(places ...float64) api.Net {
	var w, b, sum []float64
	for _, at := range places {
		w, b, sum = append(w, 1, 1), append(b, -at, -at), append(sum, 1, -1)
	}
	return netOf(1, dense(w, b), samples.Relu(), dense(sum, numbers(0)))
}

// text is what something looks like, as far as one may want to read.
func text(what any) string {
	s := fmt.Sprintf("%+v", what)
	return s[:min(len(s), 1500)]
}

func robust(margin float64, looked int) api.Verdict {
	return api.Verdict{Kind: api.Robust, Margin: margin, Looked: looked}
}

func falsifiedAt(claim int, gap float64, looked int, e ...int) api.Verdict {
	return api.Verdict{Kind: api.Falsified, Claim: claim, Margin: gap, Looked: looked, E: e}
}

func unknown(open, bad, looked int) api.Verdict {
	return api.Verdict{Kind: api.Unknown, Open: open, Bad: bad, Looked: looked}
}

// sameVerdict tells whether two verdicts are alike, bit for bit; nil and empty lists are.
func sameVerdict(a, b api.Verdict) bool {
	same := oracle.Same(a.Margin, b.Margin) && slices.Equal(a.E, b.E)
	return same && a.Kind == b.Kind && a.Claim == b.Claim && a.Looked == b.Looked && a.Open == b.Open && a.Bad == b.Bad &&
		a.Err == b.Err && a.Whose == b.Whose && a.Place == b.Place
}

// encoded are the bytes of a network and a question.
func encoded(t *testing.T, n api.Net, p api.Prop) (net, prop []byte) {
	t.Helper()
	net, e, _ := code.EncodeNet(n)
	prop, f, _ := code.EncodeProp(p)
	if e != api.OK || f != api.OK {
		t.Fatalf("%s, %s: %v %v", text(n), text(p), e, f)
	}
	return net, prop
}

func expectJudge(t *testing.T, n api.Net, p api.Prop, workers int, want api.Verdict) {
	t.Helper()
	if got, e := Judge(n, p, workers); e != api.OK || !sameVerdict(got, want) {
		t.Errorf("Judge(%s, %s, %d): %+v %v, not %+v", text(n), text(p), workers, got, e, want)
	}
}

func expectNoJudge(t *testing.T, n api.Net, p api.Prop, workers int, want api.Errno) {
	t.Helper()
	if got, e := Judge(n, p, workers); e != want || !sameVerdict(got, api.Verdict{}) {
		t.Errorf("Judge(%s, %s, %d): %+v beside %v, not %v alone", text(n), text(p), workers, got, e, want)
	}
}

// expectBytes holds Verify and Side to a verdict on two files' bytes.
func expectBytes(t *testing.T, net, prop []byte, want api.Verdict) {
	t.Helper()
	if got := Verify(net, prop); !sameVerdict(got, want) {
		t.Errorf("Verify(%x, %x): %+v, not %+v", shown(net), shown(prop), got, want)
	}
	expectSide(t, nil, 1, net, prop, want)
	expectSide(t, api.NewStop().Done(), 3, net, prop, want)
}

func expectSide(t *testing.T, done <-chan struct{}, workers int, net, prop []byte, want api.Verdict) {
	t.Helper()
	if got, e := Side(done, workers, net, prop); e != api.OK || !sameVerdict(got, want) {
		t.Errorf("Side(%d, %x, %x): %+v %v, not %+v", workers, shown(net), shown(prop), got, e, want)
	}
}

func expectNoSide(t *testing.T, done <-chan struct{}, workers int, net, prop []byte, want api.Errno) {
	t.Helper()
	if got, e := Side(done, workers, net, prop); e != want || !sameVerdict(got, api.Verdict{}) {
		t.Errorf("Side(%d, %x, %x): %+v beside %v, not %v alone", workers, shown(net), shown(prop), got, e, want)
	}
}

// shown is the beginning of some bytes.
func shown(b []byte) []byte { return b[:min(len(b), 60)] }

// expectVerdict holds Judge, Verify and Side to a verdict.
func expectVerdict(t *testing.T, n api.Net, p api.Prop, want api.Verdict) {
	t.Helper()
	for _, workers := range []int{1, 2, 16} {
		expectJudge(t, n, p, workers, want)
	}
	net, prop := encoded(t, n, p)
	expectBytes(t, net, prop, want)
}

func expectRadius(t *testing.T, n api.Net, p api.Prop, bits int, radius int, want api.Verdict) {
	t.Helper()
	for _, workers := range []int{1, 16} {
		if i, got, e := Radius(n, p, bits, workers); e != api.OK || i != radius || !sameVerdict(got, want) {
			t.Errorf("Radius(%s, %s, %d, %d): %d %+v %v, not %d %+v", text(n), text(p), bits, workers, i, got, e, radius, want)
		}
	}
}

func expectNoRadius(t *testing.T, n api.Net, p api.Prop, bits, workers int, want api.Errno) {
	t.Helper()
	if i, got, e := Radius(n, p, bits, workers); e != want || i != 0 || !sameVerdict(got, api.Verdict{}) {
		t.Errorf("Radius(%s, %s, %d, %d): %d %+v beside %v, not %v alone", text(n), text(p), bits, workers, i, got, e, want)
	}
}

// closed is a done that is.
func closed() <-chan struct{} {
	stop := api.NewStop()
	stop.Close()
	return stop.Done()
}
