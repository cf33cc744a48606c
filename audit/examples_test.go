package audit

import (
	"slices"
	"testing"

	"ambit/api"
	"ambit/cases"
)

// exampleBytes are the network and the question of the chapter's examples.
func exampleBytes(t *testing.T, further bool) (net, prop []byte) {
	t.Helper()
	n, p := cases.Example(further)
	return encoded(t, n, p)
}

// 20.3: the examples of Account.
func TestExamplesOfAccounts(t *testing.T) {
	net, prop := exampleBytes(t, false)
	want := slices.Concat([]byte("AMBA\x01"), net[len(net)-4:], prop[len(prop)-4:], []byte{0, 0, 0, 0, 0, 0, 0xe0, 0x3f}, []byte{0})
	expectAccount(t, net, prop, sealed(want...))
	net, prop = exampleBytes(t, true)
	expectNoAccount(t, net, prop, api.ErrNone)
}

// 20.2: the examples of Check.
func TestExamplesOfChecks(t *testing.T) {
	net, prop := exampleBytes(t, false)
	that := laid(net, prop, 0.5, 0)
	expectCheck(t, net, prop, that, 0.5)
	expectCheck(t, net, prop, laid(net, prop, 0.5, 1, 0, 0), 0.5)
	for _, other := range []float64{0.25, 0.5 + 0x1p-53, 0.75, 0, -0.5} {
		expectNoCheck(t, net, prop, laid(net, prop, other, 0), api.ErrAccount)
	}
	expectNoCheck(t, net, prop, nil, api.ErrMagic)
	expectNoCheck(t, nil, prop, that, api.ErrMagic)
}

// 20.1: the examples of Parts.
func TestExamplesOfParts(t *testing.T) {
	net, prop := exampleBytes(t, false)
	expectParts(t, laid(net, prop, 0.5, 0), 1, region(0, 0))
	expectNoParts(t, laid(net, prop, 0.5, 2, 0, 0), 1, api.ErrAccount)
	expectParts(t, laid(net, prop, 0.5, 1, 0, 0), 1, region(1, 0), region(1, 1))
}
