package point

import (
	"math"
	"slices"
	"testing"

	"ambit/api"
	"ambit/oracle"
	"ambit/samples"
)

// 14.6: what model refuses is told first, with its place, whatever the point is.
func TestEvalRefusesNetworks(t *testing.T) {
	for _, c := range samples.RefusedNets() {
		for _, x := range [][]api.Dyad{nil, wholes(1), wholes(1, 2), nones()[:1], nones()} {
			expectNoEval(t, c.Net, x, c.Err, c.At)
		}
	}
	n := netOf(samples.Line(1), kind(api.KTanh), dense(0, math.NaN()))
	expectNoEval(t, n, nil, api.ErrNumber, 2)
	expectNoEval(t, netOf(samples.Line(1), kind(api.KSquare), kind(14)), dyads(dyad(1, 65536)), api.ErrKind, 2)
}

// 14.6: ErrCount of a point of another length, ahead of what is none in it.
func TestEvalRefusesLengths(t *testing.T) {
	for _, n := range append([]api.Net{netOf(samples.Line(2)), netOf(samples.Line(2), kind(api.KTanh))}, samples.Kinds()...) {
		size := width(n)
		for _, k := range []int{0, 1, size - 1, size + 1, 2 * size, 256, 300} {
			if k == size {
				continue
			}
			expectNoEval(t, n, slices.Repeat(wholes(1), k), api.ErrCount, 0)
			expectNoEval(t, n, slices.Repeat(nones()[:1], k), api.ErrCount, 0)
		}
		expectNoEval(t, n, []api.Dyad{}, api.ErrCount, 0)
	}
}

// 14.6: ErrArg of each way in which a number of the point is none, ahead of kinds.
func TestEvalRefusesNones(t *testing.T) {
	for _, none := range nones() {
		for place := range 3 {
			x := wholes(1, 2, 3)
			x[place] = none
			for _, layers := range [][]api.Layer{nil, {samples.Relu()}, {kind(api.KTanh)}, {samples.Relu(), kind(api.KSigmoid)}} {
				expectNoEval(t, netOf(samples.Line(3), layers...), x, api.ErrArg, 0)
			}
		}
	}
}

// 14.6: ErrKind at the first layer that is KTanh or KSigmoid, even if one ahead of it tells what is too long.
func TestEvalRefusesKinds(t *testing.T) {
	for _, k := range []int{api.KTanh, api.KSigmoid} {
		for ahead := range 5 {
			for _, l := range []api.Layer{samples.Relu(), kind(api.KSquare), samples.Add(0)} {
				layers := append(slices.Repeat([]api.Layer{l}, ahead), kind(k), samples.Relu(), kind(api.KTanh), kind(api.KSigmoid))
				for _, x := range []api.Dyad{{}, dyad(3, 0), dyad(1, 65536)} {
					expectNoEval(t, netOf(samples.Line(1), layers...), dyads(x), api.ErrKind, ahead+1)
				}
			}
		}
	}
}

// 14.6: where all of it is wrong, each error comes as the ones ahead of it are mended.
func TestEvalOrderOfErrors(t *testing.T) {
	n := netOf(samples.Line(2), kind(api.KSquare), kind(api.KSigmoid), dense(math.NaN(), 1, 1))
	x := dyads(dyad(1, 65536), dyad(2, 0), dyad(1, 0))
	expectNoEval(t, n, x, api.ErrNumber, 3)
	n.Layers[2].B = numbers(0)
	expectNoEval(t, n, x, api.ErrCount, 0)
	x = x[:2]
	expectNoEval(t, n, x, api.ErrArg, 0)
	x[1] = dyad(1, 1)
	expectNoEval(t, n, x, api.ErrKind, 2)
	n.Layers[1] = samples.Relu()
	expectNoEval(t, n, x, api.ErrBits, 1)
	x[0] = dyad(1, 2)
	expectEval(t, n, x, wholes(20))
}

// 14.7: lists that may be, the shortest among them; the sum may be longer on the way.
func TestClaimSums(t *testing.T) {
	expectClaim(t, numbers(2.5), nil, dyad(5, -1), api.OK)
	expectClaim(t, numbers(oracle.MinusZero()), []api.Dyad{}, api.Dyad{}, api.OK)
	expectClaim(t, numbers(1, -1, 0), wholes(7, 7), api.Dyad{}, api.OK)
	expectClaim(t, numbers(0, oracle.MinusZero(), -2), dyads(dyad(1, 65536), raised(ones(65536), -65536)), dyad(-1, 1), api.OK)
	expectClaim(t, numbers(1, 1, 1, 0), dyads(far(), dyad(1, -65536), turned(far())), dyad(1, -65536), api.OK)
	expectClaim(t, numbers(oracle.Max, 1, -oracle.Max, 0.5), dyads(far(), dyad(-1, -1), far()), api.Dyad{}, api.OK)
	expectClaim(t, append(samples.Ones(300), 0.5), slices.Repeat(wholes(1), 300), dyad(601, -1), api.OK)
}

// 14.7: what is just small enough, and what is not.
func TestClaimAtTheLimits(t *testing.T) {
	expectClaim(t, numbers(2, 0), dyads(dyad(1, 65535)), dyad(1, 65536), api.OK)
	expectClaim(t, numbers(2, 0), dyads(dyad(1, 65536)), api.Dyad{}, api.ErrBits)
	expectClaim(t, numbers(0.5, 0), dyads(dyad(1, -65535)), dyad(1, -65536), api.OK)
	expectClaim(t, numbers(0.5, 0), dyads(dyad(1, -65536)), api.Dyad{}, api.ErrBits)
	expectClaim(t, numbers(1, 1), dyads(ones(65536)), dyad(1, 65536), api.OK)
	expectClaim(t, numbers(1, 2), dyads(ones(65536)), api.Dyad{}, api.ErrBits)
	expectClaim(t, numbers(1, 1), dyads(dyad(1, 65536)), api.Dyad{}, api.ErrBits)
	expectClaim(t, numbers(-1, 1, 0), dyads(dyad(1, 65535), dyad(1, 0)), turned(ones(65535)), api.OK)
	expectClaim(t, numbers(1, 1, 0), dyads(dyad(1, 65536), dyad(1, -65536)), api.Dyad{}, api.ErrBits)
}

// 14.7: what is refused, and the order.
func TestClaimRefuses(t *testing.T) {
	expectClaim(t, nil, nil, api.Dyad{}, api.ErrCount)
	expectClaim(t, numbers(), []api.Dyad{}, api.Dyad{}, api.ErrCount)
	for _, a := range [][]float64{nil, {1}, {1, 2}, {1, 2, 3, 4}, {math.NaN(), 1}, {1, 2, 3, math.Inf(1)}} {
		expectClaim(t, a, wholes(1, 2), api.Dyad{}, api.ErrCount)
		expectClaim(t, a, dyads(dyad(2, 0), dyad(1, 65536)), api.Dyad{}, api.ErrCount)
	}
	expectClaim(t, numbers(1, 2, 3), nil, api.Dyad{}, api.ErrCount)
	for place := range 3 {
		for _, none := range oracle.NoNumbers() {
			a := numbers(2, 2, 2)
			a[place] = none
			expectClaim(t, a, wholes(1, 2), api.Dyad{}, api.ErrNumber)
			expectClaim(t, a, dyads(dyad(1, 65536), dyad(2, 0)), api.Dyad{}, api.ErrNumber)
		}
	}
	for _, none := range nones() {
		expectClaim(t, numbers(2, 0, 0), dyads(dyad(1, 65536), none), api.Dyad{}, api.ErrArg)
		expectClaim(t, numbers(0, 0, 0), dyads(none, dyad(1, 0)), api.Dyad{}, api.ErrArg)
	}
	expectClaim(t, numbers(2, 0, 0), dyads(dyad(1, 65536), dyad(1, 0)), api.Dyad{}, api.ErrBits)
}
