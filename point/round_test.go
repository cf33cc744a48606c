package point

import (
	"math/big"
	"testing"

	"ambit/api"
	"ambit/oracle"
	"ambit/samples"
)

// expectRounded holds Round by all directions to what a search among all numbers finds.
func expectRounded(t *testing.T, x api.Dyad) {
	t.Helper()
	want := oracle.Roundings(oracle.Value(x))
	for _, d := range oracle.Directions() {
		expectRound(t, d, x, want.Number[d], want.Is[d])
	}
}

// 14.4: a number's own exact one, by every direction; 0 is told without a sign.
func TestRoundOfNumbers(t *testing.T) {
	for _, a := range oracle.Edges() {
		for _, d := range oracle.Directions() {
			expectRound(t, d, exactly(a), a+0, true)
		}
	}
	for _, d := range oracle.Directions() {
		expectRound(t, d, api.Dyad{}, 0, true)
	}
}

// between are the middle of a number from 0 on and the next one above, and what is a little off it, near and very near.
func between(a float64) []api.Dyad {
	low, high := oracle.Exact(a), oracle.Power(1024)
	if a < oracle.Max {
		high = oracle.Exact(api.Float(api.Bits(a) + 1))
	}
	middle := new(big.Rat).Mul(new(big.Rat).Add(low, high), big.NewRat(1, 2))
	var all []api.Dyad
	for _, v := range []*big.Rat{low, middle, high} {
		all = append(all, formed(v))
		for _, off := range []*big.Rat{oracle.Power(-1100), oracle.Power(-2500), new(big.Rat).Mul(new(big.Rat).Sub(high, low), big.NewRat(1, 1<<10))} {
			all = append(all, formed(new(big.Rat).Add(v, off)), formed(new(big.Rat).Sub(v, off)))
		}
	}
	return all
}

// 14.4: halfway between two numbers, and on either side of it, from below the least number to past the greatest.
func TestRoundBetweenNumbers(t *testing.T) {
	t.Parallel()
	for _, a := range oracle.Heights() {
		for _, x := range between(a) {
			expectRounded(t, x)
			expectRounded(t, turned(x))
		}
	}
}

// 14.4: known roundings: exact, between, halfway, below the least number and past the greatest.
func TestRoundKnown(t *testing.T) {
	type told struct {
		a  float64
		is bool
	}
	is := func(a float64) told { return told{a, true} }
	none := told{}
	for i, c := range []struct {
		x              api.Dyad
		near, up, down told
	}{
		{dyad(3, -1), is(1.5), is(1.5), is(1.5)},
		{formed(new(big.Rat).Add(oracle.Power(53), big.NewRat(1, 1))), is(0x1p53), is(0x1p53 + 2), is(0x1p53)},
		{formed(new(big.Rat).Add(oracle.Power(53), big.NewRat(3, 1))), is(0x1p53 + 4), is(0x1p53 + 4), is(0x1p53 + 2)},
		{dyad(1, -1075), is(0), is(oracle.Least), is(0)},
		{dyad(3, -1076), is(oracle.Least), is(oracle.Least), is(0)},
		{dyad(1, -1076), is(0), is(oracle.Least), is(0)},
		{dyad(3, -1075), is(2 * oracle.Least), is(2 * oracle.Least), is(oracle.Least)},
		{dyad(1, -65536), is(0), is(oracle.Least), is(0)},
		{raised(ones(65536), -65536), is(1), is(1), is(1 - 0x1p-53)},
		{raised(ends(65536), -65536), is(0.5), is(0.5 + 0x1p-53), is(0.5)},
		{dyad(1, 1024), none, none, is(oracle.Max)},
		{dyad(1<<54-1, 970), none, none, is(oracle.Max)},
		{dyad(1<<54-3, 970), is(0x1.ffffffffffffep1023), is(oracle.Max), is(0x1.ffffffffffffep1023)},
		{dyad(1<<55-3, 969), is(oracle.Max), none, is(oracle.Max)},
		{dyad(1<<55-1, 969), none, none, is(oracle.Max)},
		{dyad(1, 65536), none, none, is(oracle.Max)},
		{raised(ones(65536), 65536), none, none, is(oracle.Max)},
		{ones(1024), none, none, is(oracle.Max)},
		{ones(1023), is(0x1p1023), is(0x1p1023), is(0x1.fffffffffffffp1022)},
	} {
		for d, want := range []told{c.near, c.up, c.down} {
			expectRound(t, api.Dir(d), c.x, want.a, want.is)
		}
		for d, want := range []told{c.near, c.down, c.up} {
			expectRound(t, api.Dir(d), turned(c.x), 0-want.a, want.is)
		}
		if t.Failed() {
			t.Fatalf("of %d", i)
		}
	}
}

// 14.4: whole numbers of every length up to some, of which one bit far behind decides.
func TestRoundLooksAtEveryBit(t *testing.T) {
	t.Parallel()
	for n := 50; n < 140; n++ {
		for _, head := range []int64{1, 3, 1<<53 - 1, 1<<53 + 1, 1<<54 - 1, 1<<54 - 3, 1<<54 + 1, 1<<62 - 1, 1 << 61} {
			v := new(big.Rat).Mul(big.NewRat(head, 1), oracle.Power(n))
			for _, tail := range []*big.Rat{new(big.Rat), big.NewRat(1, 1), big.NewRat(-1, 1), oracle.Power(n - 1)} {
				x := formed(new(big.Rat).Add(v, tail))
				expectRounded(t, x)
				expectRounded(t, raised(turned(x), x.E-1100))
				expectRounded(t, raised(x, x.E+900))
			}
		}
	}
}

// 14.4: of many others, long ones too.
func TestRoundOfMany(t *testing.T) {
	t.Parallel()
	var m oracle.Mixer
	for range 1500 {
		expectRounded(t, someDyad(&m))
	}
	for _, x := range edges() {
		expectRounded(t, x)
	}
}

// 14.4: no directions, and what is none.
func TestRoundRefuses(t *testing.T) {
	var m oracle.Mixer
	for _, d := range oracle.NoDirections() {
		for _, x := range append(edges(), exactly(samples.MixedNumber(&m))) {
			expectRound(t, d, x, 0, false)
		}
	}
	for _, x := range nones() {
		for _, d := range append(oracle.Directions(), oracle.NoDirections()...) {
			expectRound(t, d, x, 0, false)
		}
	}
}
