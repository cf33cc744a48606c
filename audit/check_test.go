package audit

import (
	"math"
	"slices"
	"testing"

	"ambit/api"
	"ambit/cases"
	"ambit/oracle"
)

// 20.2: the two sums are the last four bytes of the network and of the question, and each in its place.
func TestSumsOfWhatItSpeaksOf(t *testing.T) {
	net, prop := exampleBytes(t, false)
	whole := laid(net, prop, 0.5, 0)
	for i := 5 * 8; i < 13*8; i++ {
		b := slices.Clone(whole)
		b[i/8] ^= 1 << (i % 8)
		expectNoCheck(t, net, prop, resealed(b), api.ErrAccount)
	}
	expectNoCheck(t, net, prop, laid(prop, net, 0.5, 0), api.ErrAccount)
	expectNoCheck(t, net, prop, laid(net, net, 0.5, 0), api.ErrAccount)
	expectNoCheck(t, net, prop, laid(prop, prop, 0.5, 0), api.ErrAccount)
}

// 20.2: an account of another network, or of another question, is none of this one, though it would prove as much.
func TestAccountsOfOthers(t *testing.T) {
	n, p := cases.Example(false)
	net, prop := encoded(t, n, p)
	whole := laid(net, prop, 0.5, 0)
	n.Names = []string{"a", "b"}
	other, _ := encoded(t, n, p)
	expectNoCheck(t, other, prop, whole, api.ErrAccount)
	expectCheck(t, other, prop, laid(other, prop, 0.5, 0), 0.5)
	p.Looks = 2
	_, asked := encoded(t, n, p)
	expectNoCheck(t, net, asked, whole, api.ErrAccount)
	expectNoCheck(t, other, asked, whole, api.ErrAccount)
	expectCheck(t, net, asked, laid(net, asked, 0.5, 0), 0.5)
}

// 20.2: a margin that is another in one bit alone is another.
func TestMarginsBitForBit(t *testing.T) {
	net, prop := exampleBytes(t, false)
	for bit := range 64 {
		a := math.Float64frombits(math.Float64bits(0.5) ^ 1<<bit)
		want := api.ErrAccount
		if a-a != 0 {
			want = api.ErrFloat
		}
		expectNoCheck(t, net, prop, laid(net, prop, a, 0), want)
		expectNoCheck(t, net, prop, laid(net, prop, a, 1, 0, 0), want)
	}
	for _, a := range append(oracle.Edges(), oracle.MinusZero()) {
		if a != 0.5 {
			expectNoCheck(t, net, prop, laid(net, prop, a, 0), api.ErrAccount)
		}
	}
	// The least numbers there are.
	least := cases.Unit(numbers(1, 1+0x1p-52))
	net, prop = encoded(t, netOf(1), least)
	expectCheck(t, net, prop, laid(net, prop, 0x1p-52, 0), 0x1p-52)
	least = cases.Asked(lists(numbers(1, 0)), numbers(2*oracle.Least), numbers(oracle.Least))
	net, prop = encoded(t, netOf(1), least)
	expectCheck(t, net, prop, laid(net, prop, oracle.Least, 0), oracle.Least)
	expectNoCheck(t, net, prop, laid(net, prop, 2*oracle.Least, 0), api.ErrAccount)
	expectNoCheck(t, net, prop, laid(net, prop, 0, 0), api.ErrAccount)
}

// 20.2: of several margins it is the least, wherever its part stands.
func TestLeastMargins(t *testing.T) {
	for _, c := range []struct {
		slope float64
		tree  []byte
		all   []float64
	}{
		{0.5, []byte{1, 0, 0}, numbers(0.25, 0.5)},
		{-0.5, []byte{1, 0, 1, 0, 0}, numbers(0.75, 0.5, 0.25)},
		{-0.5, []byte{1, 1, 0, 0, 1, 0, 0}, numbers(1, 0.75, 0.5, 0.25)},
	} {
		net, prop := encoded(t, sloped(c.slope), cases.Unit(numbers(1, 0.75)))
		for _, a := range c.all {
			b := laid(net, prop, a, c.tree...)
			if a == slices.Min(c.all) {
				expectCheck(t, net, prop, b, a)
			} else {
				expectNoCheck(t, net, prop, b, api.ErrAccount)
			}
		}
	}
}

// 20.2: a margin that is not above 0 proves nothing, though the account says just so much.
func TestMarginsNotAboveNought(t *testing.T) {
	for _, room := range []float64{1, 1 - 0x1p-53, 0.5, -1} {
		p := cases.Unit(numbers(1, room))
		net, prop := encoded(t, netOf(1), p)
		for _, a := range []float64{room - 1, 0, oracle.MinusZero(), 1, oracle.Least} {
			expectNoCheck(t, net, prop, laid(net, prop, a, 0), api.ErrOpen)
		}
	}
}

// 20.2: one part that is not proven is enough, wherever it stands; whatever the margin is.
func TestOpenParts(t *testing.T) {
	net, prop := encoded(t, cases.Kinks(-0.5, 0.5), cases.Unit(numbers(1, 0.125)))
	expectCheck(t, net, prop, laid(net, prop, 0.125, 1, 1, 0, 0, 1, 0, 0), 0.125)
	expectCheck(t, net, prop, laid(net, prop, 0.125, 1, 1, 1, 0, 0, 0, 1, 0, 0), 0.125)
	for _, tree := range [][]byte{{0}, {1, 0, 0}, {1, 1, 0, 0, 0}, {1, 0, 1, 0, 0}, {1, 1, 1, 0, 0, 0, 0}, {1, 0, 1, 0, 1, 0, 0}} {
		for _, a := range []float64{0.125, 0, -0.5, -0.125, 1} {
			expectNoCheck(t, net, prop, laid(net, prop, a, tree...), api.ErrOpen)
		}
	}
}

// 20.2: a part whose last zonotope is bad proves nothing, not even a claim that hangs on nothing.
func TestBadParts(t *testing.T) {
	// From 0 to 2^1023, four times: bad is what has its middle at 2^1022 or above.
	p := cases.Asked(lists(numbers(0, 1)), numbers(0x1p1022), numbers(0x1p1022))
	n := netOf(1, scale(4, 0))
	net, prop := encoded(t, n, p)
	for _, tree := range [][]byte{{0}, {1, 0, 0}, {1, 1, 0, 0, 0}} {
		expectNoCheck(t, net, prop, laid(net, prop, 1, tree...), api.ErrOpen)
	}
	// The other end, so that the first part is the bad one.
	p.G[0][0] = -0x1p1022
	net, prop = encoded(t, n, p)
	for _, tree := range [][]byte{{0}, {1, 0, 0}, {1, 0, 1, 0, 0}} {
		expectNoCheck(t, net, prop, laid(net, prop, 1, tree...), api.ErrOpen)
	}
	// The input itself is bad in one half of the cube.
	p = cases.Asked(lists(numbers(0, 1)), numbers(oracle.Max), numbers(oracle.Max))
	net, prop = encoded(t, netOf(1), p)
	expectCheck(t, net, prop, laid(net, prop, 1, 0), 1)
	expectNoCheck(t, net, prop, laid(net, prop, 1, 1, 0, 0), api.ErrOpen)
}

// 20.2: a part of which Worst tells nothing, though it is not bad: a claim has no margin.
func TestPartsWithNoWorst(t *testing.T) {
	wild, tame := numbers(oracle.Max, 0), numbers(0, 3)
	for _, claims := range [][][]float64{lists(tame, wild), lists(wild, tame)} {
		p := cases.Asked(claims, numbers(0), numbers(1), numbers(1))
		net, prop := encoded(t, netOf(1), p)
		for _, a := range []float64{3, 0, -oracle.Max} {
			expectNoCheck(t, net, prop, laid(net, prop, a, 0), api.ErrOpen)
		}
	}
	p := cases.Asked(lists(tame), numbers(0), numbers(1), numbers(1))
	net, prop := encoded(t, netOf(1), p)
	expectCheck(t, net, prop, laid(net, prop, 3, 0), 3)
}

// 20.2: whatever tree proves it is taken, with its own margin: one that is finer than the verdict's, one by other symbols.
func TestOtherTrees(t *testing.T) {
	p := cases.Asked(lists(numbers(-1, 8)), numbers(0), numbers(1), numbers(0))
	net, prop := encoded(t, cases.Bumps(1.5, numbers(0.125)), p)
	margins := map[string]float64{}
	for _, tree := range []string{"\x00", "\x01\x00\x00", "\x02\x00\x00", "\x02\x01\x00\x00\x00", "\x01\x01\x00\x00\x01\x00\x00"} {
		a, e := wantCheck(net, prop, laid(net, prop, 0, []byte(tree)...))
		if a != 0 || e != api.ErrAccount {
			t.Fatalf("%x: %v %v", tree, a, e)
		}
		parts, _ := Parts(about([]byte(tree)...), 2)
		n, q, _ := wantCause(net, prop)
		least, _ := cause{n, q, q.Claims}.leastMargin(parts)
		expectCheck(t, net, prop, laid(net, prop, least, []byte(tree)...), least)
		margins[tree] = least
	}
	whole, halves := margins["\x00"], margins["\x01\x00\x00"]
	if whole <= 0 || halves <= whole {
		t.Errorf("%v", margins)
	}
	expectAccount(t, net, prop, laid(net, prop, whole, 0))
	expectNoCheck(t, net, prop, laid(net, prop, whole, 1, 0, 0), api.ErrAccount)
	expectNoCheck(t, net, prop, laid(net, prop, halves, 0), api.ErrAccount)
}

// 20.2: as many parts as an account may have, of as many symbols as a question may have.
func TestChecksOfMostParts(t *testing.T) {
	p := cases.Asked(lists(numbers(1, 0)), numbers(2))
	p.G = make([][]float64, 256)
	for i := range p.G {
		p.G[i] = numbers(0x1p-8)
	}
	net, prop := encoded(t, netOf(1), p)
	expectCheck(t, net, prop, laid(net, prop, 1, tokens(comb(1024)...)...), 1)
	expectNoCheck(t, net, prop, laid(net, prop, 1, tokens(comb(1025)...)...), api.ErrAccount)
}
