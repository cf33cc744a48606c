package audit

import (
	"bytes"
	"testing"

	"ambit/api"
	"ambit/cases"
	"ambit/verify"
)

// expectTree holds the account of a robust question to a margin and a tree, and Check to that account.
func expectTree(t *testing.T, n api.Net, p api.Prop, margin float64, tree ...byte) {
	t.Helper()
	net, prop := encoded(t, n, p)
	want := laid(net, prop, margin, tree...)
	expectAccount(t, net, prop, want)
	expectCheck(t, net, prop, want, margin)
}

// 20.3: the tree halves just the regions that were halved.
func TestTreesOfVerdicts(t *testing.T) {
	p := cases.Unit(numbers(1, 0.125))
	expectTree(t, cases.Kinks(-0.5, 0.5), p, 0.125, 1, 1, 0, 0, 1, 0, 0)
	expectTree(t, cases.Kinks(0), p, 0.125, 1, 0, 0)
	expectTree(t, cases.Kinks(-1, 1), p, 0.125, 0)
	// What is settled is not halved, though what stands beside it is.
	p.Claims = lists(numbers(1, 0.0625))
	expectTree(t, cases.Kinks(-0.75), p, 0.0625, 1, 1, 1, 0, 0, 0, 0)
	expectTree(t, cases.Kinks(-0.25), p, 0.0625, 1, 1, 0, 1, 0, 0, 0)
	expectTree(t, cases.Kinks(0.25), p, 0.0625, 1, 0, 1, 1, 0, 0, 0)
	expectTree(t, cases.Kinks(0.75), p, 0.0625, 1, 0, 1, 0, 1, 0, 0)
}

// 20.3: budgets that are just enough; with less there is nothing to give an account of.
func TestBudgetsOfAccounts(t *testing.T) {
	n, p := cases.Kinks(-0.5, 0.5), cases.Unit(numbers(1, 0.125))
	expectTree(t, n, cases.Within(p, 2, 7), 0.125, 1, 1, 0, 0, 1, 0, 0)
	for _, q := range []api.Prop{cases.Within(p, 1, 7), cases.Within(p, 2, 6), cases.Within(p, 8, 5), cases.Within(p, 0, 1024), cases.Within(p, 8, 1)} {
		net, prop := encoded(t, n, q)
		expectNoAccount(t, net, prop, api.ErrNone)
		// The same parts prove it all the same: they hang on no budget of halvings.
		expectCheck(t, net, prop, laid(net, prop, 0.125, 1, 1, 0, 0, 1, 0, 0), 0.125)
	}
}

// 20.3: a symbol is told by its number and one, in two bytes from 127 on; MaxSymbols of them may be.
func TestSymbolsOfAccounts(t *testing.T) {
	for _, s := range []int{0, 1, 126, 127, 128, 254, 255} {
		p := cases.Unit(numbers(1, 0.125))
		p.G = make([][]float64, 256)
		for i := range p.G {
			p.G[i] = numbers(0)
		}
		p.G[s] = numbers(1)
		expectTree(t, cases.Kinks(0), p, 0.125, tokens(s+1, 0, 0)...)
		expectTree(t, cases.Kinks(-0.5, 0.5), p, 0.125, tokens(s+1, s+1, 0, 0, s+1, 0, 0)...)
	}
	// The column that changes more is halved ahead of the other one, and both where one is not enough.
	p := cases.Asked(lists(numbers(1, 0.25)), numbers(0), numbers(0.25), numbers(0.75))
	for room, want := range map[float64][]byte{0.25: {2, 0, 0}, 0.125: {2, 2, 0, 1, 0, 2, 0, 0, 2, 1, 2, 0, 0, 0, 0}} {
		p.Claims = lists(numbers(1, room))
		net, prop := encoded(t, cases.Kinks(0), p)
		account, e := Account(net, prop)
		if e != api.OK || !bytes.Equal(account[21:len(account)-4], want) {
			t.Errorf("%v: %x %v", room, account, e)
		}
		expectNoCheck(t, net, prop, laid(net, prop, room, 0), api.ErrOpen)
	}
}

// 20.3: no symbols: the cube is one point, and the tree one byte.
func TestNoSymbols(t *testing.T) {
	p := cases.Asked(lists(numbers(1, 0)), numbers(0.25))
	expectTree(t, netOf(1), p, 0.25, 0)
	net, prop := encoded(t, netOf(1), p)
	expectNoCheck(t, net, prop, laid(net, prop, 0.25, 1, 0, 0), api.ErrAccount)
	p.C = numbers(-0.25)
	net, prop = encoded(t, netOf(1), p)
	expectNoAccount(t, net, prop, api.ErrNone)
	expectNoCheck(t, net, prop, laid(net, prop, -0.25, 0), api.ErrOpen)
}

// everywhere are a network and a question of which every region is halved, as often as may be: 256 parts.
func everywhere() (api.Net, api.Prop) {
	var places []float64
	for i := range 128 {
		places = append(places, -1+float64(2*i+1)/128)
	}
	return cases.Kinks(places...), cases.Unit(numbers(1, 0x1p-10))
}

// 20.3: the greatest tree that a verdict has.
func TestTheGreatestTree(t *testing.T) {
	t.Parallel()
	n, p := everywhere()
	net, prop := encoded(t, n, p)
	if v := verify.Verify(net, prop); v.Kind != api.Robust || v.Looked != 511 {
		t.Fatalf("%+v", v)
	}
	expectTree(t, n, p, 0x1p-10, even(1, 1, 8)...)
}

// 20.3: a question that is falsified, or unknown, has no account.
func TestNothingToGiveAnAccountOf(t *testing.T) {
	for _, c := range []struct {
		n    api.Net
		p    api.Prop
		kind int
	}{
		{cases.Bumps(1.5, numbers(-0.25, 0.75)), cases.Unit(numbers(-1, 1)), api.Falsified},
		{netOf(1), cases.Unit(numbers(1, 0.5)), api.Falsified},
		{netOf(1), cases.Unit(numbers(1, 1)), api.Unknown},
		{netOf(1), cases.Unit(numbers(0, 0)), api.Unknown},
		{netOf(1, scale(4, 0)), cases.Within(cases.Asked(lists(numbers(0, 1)), numbers(0), numbers(0x1p1023)), 0, 1), api.Unknown},
	} {
		net, prop := encoded(t, c.n, c.p)
		if v := verify.Verify(net, prop); v.Kind != c.kind {
			t.Fatalf("%s: %+v", text(c), v)
		}
		expectNoAccount(t, net, prop, api.ErrNone)
	}
}

// 20.3: the margin is the verdict's: the least of all parts.
func TestMarginsOfAccounts(t *testing.T) {
	// The lower half has 0.25, the upper one 0.5; turned round the lower half has 0.75, the quarters of the upper one 0.5 and 0.25.
	expectTree(t, sloped(0.5), cases.Unit(numbers(1, 0.75)), 0.25, 1, 0, 0)
	expectTree(t, sloped(-0.5), cases.Unit(numbers(1, 0.75)), 0.25, 1, 0, 1, 0, 0)
}

// sloped is a network of one coordinate that tells a slope of it, less that slope where it is 1, and has a kink at 0.5.
func sloped(slope float64) api.Net {
	n := cases.Kinks(0.5)
	n.Layers[0] = api.Layer{Kind: api.KDense, Out: 3, W: numbers(1, 1, 1), B: numbers(-0.5, -0.5, 1)}
	n.Layers[2] = api.Layer{Kind: api.KDense, Out: 1, W: numbers(1, -1, slope), B: numbers(-slope)}
	return n
}
