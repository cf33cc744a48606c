package flow

import (
	"testing"

	"ambit/api"
	"ambit/oracle"
	"ambit/samples"
)

// 16.2: no layers: the input alone, its box become columns behind the symbols.
func TestPushOfNoLayers(t *testing.T) {
	bare(numbers(1, 2), lists(numbers(3, 4)), region(0, 0)).expectPush(t, zonos(plain(numbers(1, 2), numbers(3, 4))), 1, -1)
	bare(numbers(1, oracle.MinusZero()), nil, region()).expectPush(t, zonos(plain(numbers(1, 0))), 0, -1)
	// A column of noughts stays, and one that is lost in halving too: its box has the next Id.
	bare(numbers(0, 5), lists(numbers(0, 0), numbers(2*least, 4), numbers(0, least)), region(0, 0, 0, 0, 1, 0)).expectPush(t,
		zonos(plain(numbers(0, 5), numbers(0, 0), numbers(2*least, 4), numbers(0, 0), numbers(0, least))), 4, -1)
	bare(numbers(4, 4), lists(numbers(least, least)), region(8, 7)).expectPush(t, zonos(plain(numbers(4, 4), numbers(0, 0), numbers(least, 0), numbers(0, least))), 3, -1)
	bare(numbers(1), nil, region()).expectPush(t, zonos(plain(numbers(1))), 0, -1)
}

// 16.2: what is bent becomes a new column for each coordinate that is.
func TestPushThroughBends(t *testing.T) {
	c := first()
	c.n.Layers = append(c.n.Layers, samples.Relu())
	// From -0.25 to 1.75: the slope 0.875, the rest from 0 to 0.21875. From -0.75 to 1.25: 0.625, and from 0 to 0.46875.
	ahead := zonos(plain(numbers(0.5, 0.25), numbers(1, 0)), plain(numbers(0.75, 0.25), numbers(1, 1)))
	bent := plain(numbers(0.875*0.75+0.109375, 0.625*0.25+0.234375), numbers(0.875, 0.625), numbers(0.109375, 0), numbers(0, 0.234375))
	c.expectPush(t, append(ahead, bent), 3, -1)
	// Above 0 nothing is bent: no Id is given.
	n := netOf(2, samples.Relu(), samples.Relu(), kind(api.KSquare))
	c = call{n, asked(n, 3, numbers(4, -4), numbers(1, 1)), region(0, 0)}
	relu := plain(numbers(4, 0), numbers(1, 0))
	// From 3 to 5: the slope 8, the rest from -16 to -15. At 0 all is 0.
	c.expectPush(t, zonos(plain(numbers(4, -4), numbers(1, 1)), relu, relu, plain(numbers(16.5, 0), numbers(8, 0), numbers(0.5, 0))), 2, -1)
	// In the upper half, from 4 to 5: 9, and from -20.25 to -20.
	c.r = region(1, 1)
	half := plain(numbers(4.5, 0), numbers(0.5, 0))
	c.expectPush(t, zonos(plain(numbers(4.5, -3.5), numbers(0.5, 0.5)), half, half, plain(numbers(20.375, 0), numbers(4.5, 0), numbers(0.125, 0))), 2, -1)
}

// 16.2: a layer's roundings become columns, too.
func TestPushThroughRoundings(t *testing.T) {
	n := netOf(1, scale(1+0x1p-52, 0), scale(1, 0), scale(-1, 0))
	c := call{n, asked(n, 2, numbers(1+0x1p-52)), region()}
	// (1 + 2^-52)^2 is 1 + 2^-51, and 2^-104 is lost.
	rounded := of(numbers(1+0x1p-51), ids(0), lists(numbers(0x1p-104)), numbers(0))
	turned := of(numbers(-1-0x1p-51), ids(0), lists(numbers(-0x1p-104)), numbers(0))
	c.expectPush(t, zonos(plain(numbers(1+0x1p-52)), rounded, rounded, turned), 1, -1)
}

// 16.2: a sum with the input, with a layer, and with what is ahead itself: one Id is one value.
func TestPushOfSums(t *testing.T) {
	n := netOf(2, scale(-1, 0), samples.Add(0), samples.Add(1), samples.Add(3), samples.Add(0))
	c := call{n, asked(n, 3, numbers(3, 4), numbers(1, 2), numbers(0, 1)), region(0, 0, 0, 0)}
	start, turned := plain(numbers(3, 4), numbers(1, 2), numbers(0, 1)), plain(numbers(-3, -4), numbers(-1, -2), numbers(0, -1))
	twice := plain(numbers(-6, -8), numbers(-2, -4), numbers(0, -2))
	c.expectPush(t, zonos(start, turned, plain(numbers(0, 0)), turned, twice, turned), 2, -1)
	// What a KRelu bends is new: it is not taken away with the input's columns.
	n = netOf(1, samples.Relu(), samples.Add(0), scale(-1, 0), samples.Add(1))
	c = call{n, asked(n, 3, numbers(1), numbers(2)), region(0, 0)}
	c.expectPush(t, zonos(plain(numbers(1), numbers(2)), plain(numbers(1.125), numbers(1.5), numbers(0.375)), plain(numbers(2.125), numbers(3.5), numbers(0.375)),
		plain(numbers(-2.125), numbers(-3.5), numbers(-0.375)), of(numbers(-1), ids(0), lists(numbers(-2)), numbers(0))), 2, -1)
}

// 16.2: behind a layer K n columns stand at most: those of the least loss go into new ones.
func TestPushTrims(t *testing.T) {
	n := netOf(2, scale(1, 0))
	g := lists(numbers(4, 0), numbers(1, -2), numbers(3, 3))
	start := plain(numbers(9, 9), g...)
	trimmed := func(k int) call { return call{n, asked(n, k, numbers(9, 9), g...), region(0, 0, 0, 0, 0, 0)} }
	trimmed(1).expectPush(t, zonos(start, of(numbers(9, 9), ids(3, 4), lists(numbers(8, 0), numbers(0, 5)), numbers(0, 0))), 5, -1)
	trimmed(2).expectPush(t, zonos(start, of(numbers(9, 9), ids(1, 2, 3), lists(numbers(1, -2), numbers(3, 3), numbers(4, 0)), numbers(0, 0))), 4, -1)
	trimmed(3).expectPush(t, zonos(start, start), 3, -1)
	trimmed(8).expectPush(t, zonos(start, start), 3, -1)
}

// 16.2: layer by layer more is let go, though what stays keeps its Id.
func TestPushTrimsAgain(t *testing.T) {
	n := netOf(2, scale(1, 0), scale(1, 0), dense(numbers(1, 1), numbers(0)))
	c := call{n, asked(n, 2, numbers(0, 0), numbers(4, 0), numbers(1, -2), numbers(3, 3)), region(0, 0, 0, 0, 0, 0)}
	one := of(numbers(0, 0), ids(1, 2, 3), lists(numbers(1, -2), numbers(3, 3), numbers(4, 0)), numbers(0, 0))
	two := of(numbers(0, 0), ids(1, 2, 4), lists(numbers(1, -2), numbers(3, 3), numbers(4, 0)), numbers(0, 0))
	// Of one coordinate each loss is 0: the least Ids go, all but one.
	last := of(numbers(0), ids(4, 5), lists(numbers(4), numbers(7)), numbers(0))
	c.expectPush(t, zonos(plain(numbers(0, 0), c.p.G...), one, two, last), 6, -1)
}

// 16.2: bad at the input: all are, each of its own coordinates, and no Id is given.
func TestPushBadAtTheInput(t *testing.T) {
	n := netOf(2, samples.Relu(), dense(samples.Ones(6), samples.Ones(3)), samples.Add(2), samples.Windowed(api.KMax, 1, 1, 2, 2, 0, 0), kind(api.KTanh))
	c := call{n, asked(n, 2, numbers(1, most), numbers(0, most)), region(1, 1)}
	c.expectPush(t, bads(2, 2, 3, 3, 3, 3), 1, 0)
	c.r = region(8, 255)
	c.expectPush(t, bads(2, 2, 3, 3, 3, 3), 1, 0)
	c.n.Layers = nil
	c.p.Claims = samples.Columns(1, 3)
	c.expectPush(t, bads(2), 1, 0)
}

// 16.2: bad behind the first, a middle and the last layer: those ahead are kept, and Next is what it was.
func TestPushBadOnTheWay(t *testing.T) {
	great := scale(0x1p1000, 0)
	ask := func(n api.Net) call { return call{n, asked(n, 4, numbers(0), numbers(0x1p100)), region(0, 0)} }
	start, relu := plain(numbers(0), numbers(0x1p100)), plain(numbers(0x1p98), numbers(0x1p99), numbers(0x1p98))
	ask(netOf(1, great, samples.Relu(), samples.Add(0))).expectPush(t, append(zonos(start), bads(1, 1, 1)...), 1, 1)
	ask(netOf(1, samples.Relu(), great, samples.Add(1), dense(numbers(0, 0), numbers(1, 2)))).expectPush(t, append(zonos(start, relu), bads(1, 1, 2)...), 2, 2)
	ask(netOf(1, samples.Relu(), great)).expectPush(t, append(zonos(start, relu), bads(1)...), 2, 2)
	// Nothing bad is mended: neither by noughts, nor by a sum with what is good.
	ask(netOf(1, great, scale(0, 0), samples.Add(0), samples.Leaky(0), samples.Add(4))).expectPush(t, append(zonos(start), bads(1, 1, 1, 1, 1)...), 1, 1)
}

// 16.2: each step may be the one that is bad: the layer over the zonotope, of each sort, and the columns that are let go.
func TestPushBadByEachStep(t *testing.T) {
	for _, l := range []api.Layer{kind(api.KSquare), scale(2, 0), samples.Add(0), dense(numbers(1, 1), numbers(most, -most))} {
		n := netOf(1, l)
		_, out := samples.Widths(n)
		call{n, asked(n, 2, numbers(most)), region()}.expectPush(t, zonos(plain(numbers(most)), samples.BadZono(out)), 0, 1)
	}
	// A span that is bad, of a zonotope that is not.
	n := netOf(1, samples.Relu())
	call{n, asked(n, 2, numbers(most), numbers(most)), region(0, 0)}.expectPush(t, zonos(plain(numbers(most), numbers(most)), samples.BadZono(1)), 1, 1)
	// Two columns that may stay, and of which one may go, but not both.
	n = netOf(1, scale(1, 0))
	c := call{n, asked(n, 1, numbers(0), numbers(most), numbers(-most)), region(0, 0, 0, 0)}
	start := plain(numbers(0), numbers(most), numbers(-most))
	c.expectPush(t, zonos(start, samples.BadZono(1)), 2, 1)
	c.p.K = 2
	c.expectPush(t, zonos(start, of(numbers(0), ids(1, 2), lists(numbers(-most), numbers(most)), numbers(0))), 3, -1)
	c.p.K = 3
	c.expectPush(t, zonos(start, start), 2, -1)
}

// 16.2: as many layers as may be, with as wide a shape.
func TestPushOfTheLongest(t *testing.T) {
	n := api.Net{In: samples.Shape(1, 16, 16)}
	for range api.MaxLayers {
		n.Layers = append(n.Layers, scale(-1, 0))
	}
	c := call{n, asked(n, 2, samples.Ones(256), samples.Columns(3, 256)...), samples.Cube(3)}
	x := c.trace(t)
	if len(x.Z) != 65 || x.Next != 3 || x.Bad != -1 || !samples.SameZono(x.Z[0], x.Z[64]) || x.Z[63].C[255] != -1 || x.Z[63].G[2][255] != -1 {
		t.Errorf("%s", text(x))
	}
}
