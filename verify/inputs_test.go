package verify

import (
	"fmt"
	"slices"
	"testing"

	"ambit/api"
	"ambit/code"
	"ambit/oracle"
	"ambit/samples"
)

const (
	most  = oracle.Max
	least = oracle.Least
)

func numbers(l ...float64) []float64 { return l }

func lists(l ...[]float64) [][]float64 { return l }

func wholes(l ...int) []int { return l }

func region(pairs ...int) api.Region { return samples.Region(pairs...) }

// kind is a layer that has nothing but its kind.
func kind(k int) api.Layer { return api.Layer{Kind: k} }

// dense is a KDense with these numbers.
func dense(w, b []float64) api.Layer {
	return api.Layer{Kind: api.KDense, Out: len(b), W: w, B: b}
}

// scale is a KScale of one channel.
func scale(w, b float64) api.Layer {
	return api.Layer{Kind: api.KScale, W: numbers(w), B: numbers(b)}
}

// netOf is a network of these layers over so many coordinates.
func netOf(width int, layers ...api.Layer) api.Net {
	return api.Net{In: samples.Line(width), Layers: layers}
}

// text is what something looks like, as far as one may want to read.
func text(what any) string {
	s := fmt.Sprintf("%+v", what)
	return s[:min(len(s), 1500)]
}

func robust(margin float64, looked int) api.Verdict {
	return api.Verdict{Kind: api.Robust, Margin: margin, Looked: looked}
}

func falsifiedAt(claim int, gap float64, looked int, e ...int) api.Verdict {
	return api.Verdict{Kind: api.Falsified, Claim: claim, Margin: gap, Looked: looked, E: e}
}

func unknown(open, bad, looked int) api.Verdict {
	return api.Verdict{Kind: api.Unknown, Open: open, Bad: bad, Looked: looked}
}

// sameVerdict tells whether two verdicts are alike, bit for bit; nil and empty lists are.
func sameVerdict(a, b api.Verdict) bool {
	same := oracle.Same(a.Margin, b.Margin) && slices.Equal(a.E, b.E)
	return same && a.Kind == b.Kind && a.Claim == b.Claim && a.Looked == b.Looked && a.Open == b.Open && a.Bad == b.Bad &&
		a.Err == b.Err && a.Whose == b.Whose && a.Place == b.Place
}

// encoded are the bytes of a network and a question.
func encoded(t *testing.T, n api.Net, p api.Prop) (net, prop []byte) {
	t.Helper()
	net, e, _ := code.EncodeNet(n)
	prop, f, _ := code.EncodeProp(p)
	if e != api.OK || f != api.OK {
		t.Fatalf("%s, %s: %v %v", text(n), text(p), e, f)
	}
	return net, prop
}

func expectJudge(t *testing.T, n api.Net, p api.Prop, workers int, want api.Verdict) {
	t.Helper()
	if got, e := Judge(n, p, workers); e != api.OK || !sameVerdict(got, want) {
		t.Errorf("Judge(%s, %s, %d): %+v %v, not %+v", text(n), text(p), workers, got, e, want)
	}
}

func expectNoJudge(t *testing.T, n api.Net, p api.Prop, workers int, want api.Errno) {
	t.Helper()
	if got, e := Judge(n, p, workers); e != want || !sameVerdict(got, api.Verdict{}) {
		t.Errorf("Judge(%s, %s, %d): %+v beside %v, not %v alone", text(n), text(p), workers, got, e, want)
	}
}

// expectBytes holds Verify and Side to a verdict on two files' bytes.
func expectBytes(t *testing.T, net, prop []byte, want api.Verdict) {
	t.Helper()
	if got := Verify(net, prop); !sameVerdict(got, want) {
		t.Errorf("Verify(%x, %x): %+v, not %+v", shown(net), shown(prop), got, want)
	}
	expectSide(t, nil, 1, net, prop, want)
	expectSide(t, api.NewStop().Done(), 3, net, prop, want)
}

func expectSide(t *testing.T, done <-chan struct{}, workers int, net, prop []byte, want api.Verdict) {
	t.Helper()
	if got, e := Side(done, workers, net, prop); e != api.OK || !sameVerdict(got, want) {
		t.Errorf("Side(%d, %x, %x): %+v %v, not %+v", workers, shown(net), shown(prop), got, e, want)
	}
}

func expectNoSide(t *testing.T, done <-chan struct{}, workers int, net, prop []byte, want api.Errno) {
	t.Helper()
	if got, e := Side(done, workers, net, prop); e != want || !sameVerdict(got, api.Verdict{}) {
		t.Errorf("Side(%d, %x, %x): %+v beside %v, not %v alone", workers, shown(net), shown(prop), got, e, want)
	}
}

// shown is the beginning of some bytes.
func shown(b []byte) []byte { return b[:min(len(b), 60)] }

// expectVerdict holds Judge, Verify and Side to a verdict.
func expectVerdict(t *testing.T, n api.Net, p api.Prop, want api.Verdict) {
	t.Helper()
	for _, workers := range []int{1, 2, 16} {
		expectJudge(t, n, p, workers, want)
	}
	net, prop := encoded(t, n, p)
	expectBytes(t, net, prop, want)
}

func expectRadius(t *testing.T, n api.Net, p api.Prop, bits int, radius int, want api.Verdict) {
	t.Helper()
	for _, workers := range []int{1, 16} {
		if i, got, e := Radius(n, p, bits, workers); e != api.OK || i != radius || !sameVerdict(got, want) {
			t.Errorf("Radius(%s, %s, %d, %d): %d %+v %v, not %d %+v", text(n), text(p), bits, workers, i, got, e, radius, want)
		}
	}
}

func expectNoRadius(t *testing.T, n api.Net, p api.Prop, bits, workers int, want api.Errno) {
	t.Helper()
	if i, got, e := Radius(n, p, bits, workers); e != want || i != 0 || !sameVerdict(got, api.Verdict{}) {
		t.Errorf("Radius(%s, %s, %d, %d): %d %+v beside %v, not %v alone", text(n), text(p), bits, workers, i, got, e, want)
	}
}

// closed is a done that is.
func closed() <-chan struct{} {
	stop := api.NewStop()
	stop.Close()
	return stop.Done()
}
