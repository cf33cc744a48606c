package audit

import (
	"fmt"
	"hash/crc32"
	"math"
	"slices"
	"testing"

	"ambit/api"
	"ambit/code"
	"ambit/oracle"
	"ambit/samples"
)

func numbers(l ...float64) []float64 { return l }

func lists(l ...[]float64) [][]float64 { return l }

func region(pairs ...int) api.Region { return samples.Region(pairs...) }

func regions(l ...api.Region) []api.Region { return l }

// scale is a KScale of one channel.
func scale(w, b float64) api.Layer {
	return api.Layer{Kind: api.KScale, W: numbers(w), B: numbers(b)}
}

// netOf is a network of these layers over so many coordinates.
func netOf(width int, layers ...api.Layer) api.Net {
	return api.Net{In: samples.Line(width), Layers: layers}
}

// text is what something looks like, as far as one may want to read.
func text(what any) string {
	s := fmt.Sprintf("%+v", what)
	return s[:min(len(s), 1500)]
}

// shown is the beginning of some bytes.
func shown(b []byte) string { return fmt.Sprintf("%x", b[:min(len(b), 80)]) }

// encoded are the bytes of a network and a question.
func encoded(t *testing.T, n api.Net, p api.Prop) (net, prop []byte) {
	t.Helper()
	net, e, _ := code.EncodeNet(n)
	prop, f, _ := code.EncodeProp(p)
	if e != api.OK || f != api.OK {
		t.Fatalf("%s, %s: %v %v", text(n), text(p), e, f)
	}
	return net, prop
}

// sealed are bytes with their sum behind them.
func sealed(b ...byte) []byte {
	s := crc32.Checksum(b, crc32.MakeTable(crc32.Castagnoli))
	return append(slices.Clone(b), byte(s), byte(s>>8), byte(s>>16), byte(s>>24))
}

// resealed are the bytes of an account with the sum that they must have.
func resealed(b []byte) []byte { return sealed(b[:len(b)-4]...) }

// bitsOf are eight bytes of a number, or of none.
func bitsOf(a float64) []byte {
	u := math.Float64bits(a)
	var b []byte
	for i := range 8 {
		b = append(b, byte(u>>(8*i)))
	}
	return b
}

// laid is the account of a margin and a tree; what it speaks of ends as net and prop do.
func laid(net, prop []byte, margin float64, tree ...byte) []byte {
	return sealed(slices.Concat([]byte("AMBA\x01"), net[len(net)-4:], prop[len(prop)-4:], bitsOf(margin), tree)...)
}

// about is the account of a tree that speaks of nothing in particular.
func about(tree ...byte) []byte { return laid([]byte("netw"), []byte("prop"), 0.75, tree...) }

// tokens is how whole numbers lie in bytes, one behind the other.
func tokens(l ...int) []byte {
	var b []byte
	for _, n := range l {
		for ; n > 127; n /= 128 {
			b = append(b, byte(n%128+128))
		}
		b = append(b, byte(n))
	}
	return b
}

func expectAccount(t *testing.T, net, prop, want []byte) {
	t.Helper()
	if got, e := Account(net, prop); e != api.OK || !slices.Equal(got, want) {
		t.Errorf("Account(%s, %s): %s %v, not %s", shown(net), shown(prop), shown(got), e, shown(want))
	}
}

func expectNoAccount(t *testing.T, net, prop []byte, want api.Errno) {
	t.Helper()
	if got, e := Account(net, prop); e != want || len(got) > 0 {
		t.Errorf("Account(%s, %s): %s beside %v, not %v alone", shown(net), shown(prop), shown(got), e, want)
	}
}

func expectCheck(t *testing.T, net, prop, account []byte, want float64) {
	t.Helper()
	if got, e := Check(net, prop, account); e != api.OK || !oracle.Same(got, want) {
		t.Errorf("Check(%s, %s, %s): %v %v, not %v", shown(net), shown(prop), shown(account), got, e, want)
	}
}

func expectNoCheck(t *testing.T, net, prop, account []byte, want api.Errno) {
	t.Helper()
	if got, e := Check(net, prop, account); e != want || !oracle.Same(got, 0) {
		t.Errorf("Check(%s, %s, %s): %v beside %v, not %v alone", shown(net), shown(prop), shown(account), got, e, want)
	}
}

// sameParts tells whether two lists of regions are alike; nil and empty lists are.
func sameParts(a, b []api.Region) bool { return slices.EqualFunc(a, b, samples.SameRegion) }

func expectParts(t *testing.T, account []byte, k int, want ...api.Region) {
	t.Helper()
	if got, e := Parts(account, k); e != api.OK || !sameParts(got, want) {
		t.Errorf("Parts(%s, %d): %s %v, not %s", shown(account), k, text(got), e, text(want))
	}
}

func expectNoParts(t *testing.T, account []byte, k int, want api.Errno) {
	t.Helper()
	if got, e := Parts(account, k); e != want || len(got) > 0 {
		t.Errorf("Parts(%s, %d): %s beside %v, not %v alone", shown(account), k, text(got), e, want)
	}
}
