package flow

import (
	"testing"

	"ambit/api"
	"ambit/oracle"
	"ambit/samples"
	"ambit/zono"
)

const (
	most  = oracle.Max
	least = oracle.Least
)

// 16.1: of the whole cube the zonotope of the question itself.
func TestStartOfTheWholeCube(t *testing.T) {
	var m oracle.Mixer
	for range 300 {
		c := someCall(&m, samples.EveryKind(), 0)
		c.r = samples.Cube(len(c.p.G))
		c.expectStart(t, zono.New(c.p.C, c.p.G))
	}
	for _, a := range oracle.Edges() {
		bare(numbers(a), lists(numbers(a), numbers(-a)), samples.Cube(2)).expectStart(t, plain(numbers(a+0), numbers(a+0), numbers(-a+0)))
	}
}

// 16.1: the middle of each place of each level, and how far the region goes from there.
func TestStartAtEachPlace(t *testing.T) {
	for level := range api.MaxDepth + 1 {
		parts := float64(int(1) << level)
		for at := range 1 << level {
			middle := -1 + (2*float64(at)+1)/parts
			c := bare(numbers(5, 0), lists(numbers(3, 0), numbers(1, 16)), region(level, at, 0, 0))
			c.expectStart(t, plain(numbers(5+3*middle, 0), numbers(3/parts, 0), numbers(1, 16)))
			c.r = region(0, 0, level, at)
			c.expectStart(t, plain(numbers(5+middle, 16*middle), numbers(3, 0), numbers(1/parts, 16/parts)))
		}
	}
}

// 16.1: the first and the last place of the greatest level, of several symbols at once.
func TestStartAtTheCorners(t *testing.T) {
	c := bare(numbers(1), lists(numbers(256), numbers(512), numbers(-256)), region(8, 0, 8, 255, 8, 0))
	c.expectStart(t, plain(numbers(1-255+510+255), numbers(1), numbers(2), numbers(-1)))
	c.r = region(8, 255, 8, 0, 8, 255)
	c.expectStart(t, plain(numbers(1+255-510-255), numbers(1), numbers(2), numbers(-1)))
}

// 16.1: no symbols: a point.
func TestStartOfNoSymbols(t *testing.T) {
	for _, r := range []api.Region{{}, {Level: []int{}}, {At: []int{}}, {Level: []int{}, At: []int{}}} {
		bare(numbers(1, -2.5, most, least), nil, r).expectStart(t, plain(numbers(1, -2.5, most, least)))
		bare(numbers(7), lists(), r).expectStart(t, plain(numbers(7)))
	}
}

// 16.1: a column of noughts stays, with its Id; no nought that is told has a sign.
func TestStartKeepsNoughts(t *testing.T) {
	minus := oracle.MinusZero()
	for level := range api.MaxDepth + 1 {
		for _, at := range []int{0, 1<<level - 1} {
			c := bare(numbers(minus, 0, minus), lists(numbers(0, 0, 0), numbers(minus, minus, 0), numbers(minus, 0, minus)), region(level, at, 0, 0, level, at))
			c.expectStart(t, plain(numbers(0, 0, 0), numbers(0, 0, 0), numbers(0, 0, 0), numbers(0, 0, 0)))
		}
	}
	// 1 - 1 is 0, and so is what is less than half of the least number.
	bare(numbers(1), lists(numbers(-2)), region(1, 1)).expectStart(t, plain(numbers(0), numbers(-1)))
	bare(numbers(0), lists(numbers(-least)), region(2, 2)).expectStart(t, of(numbers(0), ids(0), lists(numbers(0)), numbers(least)))
}

// 16.1: what the middle's rounding takes or gives is in the box.
func TestStartRoundsTheMiddle(t *testing.T) {
	// 1 + 2^-53, a tie to the even one, below it; 1 + 3 2^-53, a tie to the even one above.
	bare(numbers(1), lists(numbers(0x1p-52)), region(1, 1)).expectStart(t, of(numbers(1), ids(0), lists(numbers(0x1p-53)), numbers(0x1p-53)))
	bare(numbers(1+0x1p-52), lists(numbers(0x1p-52)), region(1, 1)).expectStart(t, of(numbers(1+0x1p-51), ids(0), lists(numbers(0x1p-53)), numbers(0x1p-53)))
	// 1 - 2^-54: a tie, too; to 1.
	bare(numbers(1), lists(numbers(0x1p-53)), region(1, 0)).expectStart(t, of(numbers(1), ids(0), lists(numbers(0x1p-54)), numbers(0x1p-54)))
	// Each of the two middles would be lost alone: one rounding of their sum keeps both.
	bare(numbers(1), lists(numbers(0x1p-52), numbers(0x1p-52)), region(1, 1, 1, 1)).expectStart(t, plain(numbers(1+0x1p-52), numbers(0x1p-53), numbers(0x1p-53)))
	// What is added and taken away again leaves nothing.
	bare(numbers(0x1p-60), lists(numbers(4), numbers(4)), region(2, 0, 2, 3)).expectStart(t, plain(numbers(0x1p-60), numbers(1), numbers(1)))
	// 0.1 in parts of 256: the box is up of what is lost.
	v := times(oracle.Exact(0.1), oracle.Power(-8))
	far := minus(plus(oracle.Exact(1), v), oracle.Exact(1+0.1/256))
	bare(numbers(1), lists(numbers(0.1)), region(8, 128)).expectStart(t, of(numbers(1+0.1/256), ids(0), lists(numbers(0.1/256)), numbers(rounded(api.Up, far.Abs(far)))))
}

// 16.1: columns lose just at the least numbers; what all of them lose is summed up ahead of the one rounding.
func TestStartRoundsColumns(t *testing.T) {
	// Half of the least number is a tie, to 0; three halves are one, to 2.
	bare(numbers(0), lists(numbers(2*least)), region(1, 0)).expectStart(t, plain(numbers(-least), numbers(least)))
	bare(numbers(4), lists(numbers(least)), region(1, 0)).expectStart(t, of(numbers(4), ids(0), lists(numbers(0)), numbers(least)))
	bare(numbers(0), lists(numbers(3*least)), region(1, 1)).expectStart(t, of(numbers(2*least), ids(0), lists(numbers(2*least)), numbers(least)))
	// The middles' sum is the least number: of it nothing is lost. Of the columns twice a half is, which is the least number, not twice that.
	bare(numbers(0), lists(numbers(least), numbers(least)), region(1, 1, 1, 1)).expectStart(t, of(numbers(least), ids(0, 1), lists(numbers(0), numbers(0)), numbers(least)))
	// Three halves of it go, and another one of the middle.
	bare(numbers(0), lists(numbers(least), numbers(least), numbers(least)), region(1, 1, 1, 1, 1, 1)).expectStart(t, of(numbers(2*least), ids(0, 1, 2), lists(numbers(0), numbers(0), numbers(0)), numbers(2*least)))
	// A quarter of 5 is nearer to 1, that of 7 nearer to 2: a quarter is lost of each. So it is of the middle, at 3 / 4 of -2, none.
	bare(numbers(0), lists(numbers(5*least), numbers(7*least)), region(2, 3, 2, 0)).expectStart(t, of(numbers(-2*least), ids(0, 1), lists(numbers(least), numbers(2*least)), numbers(least)))
	// Coordinates stand alone.
	bare(numbers(0, 0, 8), lists(numbers(least, 1, 0)), region(8, 255)).expectStart(t, of(numbers(least, 255.0/256, 8), ids(0), lists(numbers(0, 1.0/256, 0)), numbers(least, 0, 0)))
}

// 16.1: a sum goes past the greatest number and back; where it stays there the zonotope is bad, of the input's coordinates all the same.
func TestStartPastTheGreatest(t *testing.T) {
	bare(numbers(most), lists(numbers(most), numbers(most)), region(1, 1, 1, 0)).expectStart(t, plain(numbers(most), numbers(most/2), numbers(most/2)))
	bare(numbers(most), lists(numbers(-most)), region(0, 0)).expectStart(t, plain(numbers(most), numbers(-most)))
	// Just what is less than Max + 2^970 is rounded to Max. Half of the least number less is less: that half is lost with the column.
	bare(numbers(most), lists(numbers(0x1p970)), region(1, 1)).expectStart(t, of(numbers(most), ids(0), lists(numbers(0x1p969)), numbers(0x1p969)))
	bare(numbers(-most), lists(numbers(0x1p971), numbers(-least)), region(1, 0, 1, 0)).expectStart(t, of(numbers(-most), ids(0, 1), lists(numbers(0x1p970), numbers(0)), numbers(0x1p970)))
	for _, c := range []call{
		bare(numbers(most), lists(numbers(0x1p971)), region(1, 1)),
		bare(numbers(-most), lists(numbers(0x1p971)), region(1, 0)),
		bare(numbers(-most), lists(numbers(0x1p971), numbers(least)), region(1, 0, 1, 0)),
		bare(numbers(most), lists(numbers(most)), region(1, 1)),
		bare(numbers(most), lists(numbers(most)), region(8, 255)),
		bare(numbers(most), lists(numbers(-most), numbers(most)), region(8, 0, 8, 255)),
		bare(numbers(-most, 1, 2), lists(numbers(0, 0, 0), numbers(-most, 0, 0)), region(0, 0, 8, 255)),
		bare(numbers(1, 2, most), lists(numbers(0, 0, most)), region(2, 3)),
	} {
		c.expectStart(t, samples.BadZono(len(c.p.C)))
	}
	// Only where it stays there: the same columns at other places.
	bare(numbers(most), lists(numbers(most)), region(8, 0)).expectStart(t, of(numbers(most/256), ids(0), lists(numbers(most/256)), numbers(0)))
}

// 16.1: as many symbols and coordinates as may be.
func TestStartOfTheWidest(t *testing.T) {
	n := api.Net{In: samples.Shape(1, 16, 16)}
	c := call{n, asked(n, 1, samples.Ones(256), samples.Columns(256, 256)...), samples.Cube(256)}
	want := zono.New(c.p.C, c.p.G)
	c.expectStart(t, want)
	for s := range 256 {
		c.r.Level[s], c.r.At[s] = 1, s%2
		for i := range want.N {
			want.G[s][i] = 0.5
		}
	}
	c.expectStart(t, want)
}
