package point

import (
	"bytes"
	"math"
	"slices"
	"testing"

	"ambit/api"
	"ambit/oracle"
	"ambit/samples"
)

func expectCheck(t *testing.T, x api.Dyad, e api.Errno) {
	t.Helper()
	if got := Check(x); got != e {
		t.Errorf("Check(%s): %v, not %v", text(x), got, e)
	}
}

// 14.1: 0 in its one form, M of MaxBits bits, E at both ends; nil and empty lists mean the same.
func TestCheckTakes(t *testing.T) {
	for _, x := range append(edges(), api.Dyad{M: []byte{}}) {
		expectCheck(t, x, api.OK)
	}
	if n := len(ones(65536).M); n != 8192 {
		t.Errorf("%d bytes", n)
	}
	var m oracle.Mixer
	for range 3000 {
		expectCheck(t, someDyad(&m), api.OK)
	}
}

// 14.1: each way in which a number is none.
func TestCheckRefuses(t *testing.T) {
	for _, x := range nones() {
		expectCheck(t, x, api.ErrArg)
	}
}

// 14.1: M has MaxBits bits and one more, E is at its ends and one past each.
func TestCheckAtTheLimits(t *testing.T) {
	for first := 1; first < 256; first++ {
		m := bytes.Repeat([]byte{1}, 8192)
		m[0] = byte(first)
		expectCheck(t, api.Dyad{M: m}, api.OK)
		expectCheck(t, api.Dyad{M: append(m, 1)}, api.ErrArg)
		expectCheck(t, api.Dyad{M: m[1:]}, api.OK)
	}
	for _, m := range [][]byte{{1}, ones(65536).M} {
		for _, neg := range []bool{false, true} {
			for _, e := range []int{-65536, -65535, 0, 65535, 65536} {
				expectCheck(t, api.Dyad{Neg: neg, M: m, E: e}, api.OK)
			}
			for _, e := range []int{-65537, 65537, -65536 - 1<<32, 65536 + 1<<32, math.MinInt, math.MaxInt} {
				expectCheck(t, api.Dyad{Neg: neg, M: m, E: e}, api.ErrArg)
			}
		}
	}
}

// 14.2: the exact number of every number at which something changes, and of many others.
func TestOfNumbers(t *testing.T) {
	expectOf(t, 0, api.Dyad{}, true)
	expectOf(t, oracle.Least, dyad(1, -1074), true)
	expectOf(t, -oracle.Least, dyad(-1, -1074), true)
	expectOf(t, oracle.Max, dyad(1<<53-1, 971), true)
	expectOf(t, -oracle.Max, dyad(1-1<<53, 971), true)
	expectOf(t, 0x1p-1022-oracle.Least, dyad(1<<52-1, -1074), true)
	expectOf(t, 0x1p1023, dyad(1, 1023), true)
	var m oracle.Mixer
	all := oracle.Edges()
	for range 3000 {
		all = append(all, samples.MixedNumber(&m), api.Float(m.Word()>>12))
	}
	for _, a := range all {
		expectOf(t, a, exactly(a), true)
	}
}

// 14.2: what is no number has no exact one.
func TestOfNoNumbers(t *testing.T) {
	for _, a := range oracle.NoNumbers() {
		expectOf(t, a, api.Dyad{}, false)
	}
}

// noughts are n bytes of 0.
func noughts(n int) []byte { return make([]byte, n) }

// 14.2: bytes that begin or end with noughts, and none.
func TestMakeTakesNoughtsAway(t *testing.T) {
	for _, neg := range []bool{false, true} {
		for _, e := range []int{0, 1, -1, 65536, 65537, -65537, 1 << 40, math.MaxInt, math.MinInt} {
			for _, n := range []int{0, 1, 2, 9, 20000} {
				expectMake(t, neg, noughts(n), e, api.Dyad{}, api.OK)
			}
		}
		expectMake(t, neg, nil, 7, api.Dyad{}, api.OK)
	}
	for _, ahead := range []int{0, 1, 7, 8, 9000, 20000} {
		for _, behind := range []int{0, 1, 7, 8, 8192, 20000} {
			for bit := range 8 {
				three := 3 << bit
				m := slices.Concat(noughts(ahead), []byte{byte(three >> 8), byte(three)}, noughts(behind))
				expectMake(t, false, m, -8*behind, dyad(3, bit), api.OK)
				expectMake(t, true, m, 5-8*behind, dyad(-3, 5+bit), api.OK)
				expectMake(t, true, m, 65537-8*behind-bit, api.Dyad{}, api.ErrBits)
				expectMake(t, true, m, -65537-8*behind-bit, api.Dyad{}, api.ErrBits)
				expectMake(t, true, m, 65536-8*behind-bit, dyad(-3, 65536), api.OK)
				expectMake(t, false, m, -65536-8*behind-bit, dyad(3, -65536), api.OK)
			}
		}
	}
}

// 14.2: M and E that are just small enough, and those that are not.
func TestMakeAtTheLimits(t *testing.T) {
	long := ones(65536).M
	expectMake(t, false, long, 0, ones(65536), api.OK)
	expectMake(t, false, append([]byte{0, 0}, long...), 65536, raised(ones(65536), 65536), api.OK)
	expectMake(t, true, append(slices.Clone(long), 0), -65544, raised(turned(ones(65536)), -65536), api.OK)
	expectMake(t, false, append([]byte{1}, long...), 0, api.Dyad{}, api.ErrBits)
	expectMake(t, false, slices.Concat([]byte{1}, noughts(8192)), 0, dyad(1, 65536), api.OK)
	expectMake(t, false, slices.Concat([]byte{1}, noughts(8192)), 1, api.Dyad{}, api.ErrBits)
	expectMake(t, false, slices.Concat([]byte{1}, noughts(8191), []byte{1}), 0, api.Dyad{}, api.ErrBits)
	expectMake(t, false, slices.Concat([]byte{1}, noughts(8191), []byte{2}), 0, raised(ends(65536), 1), api.OK)
	expectMake(t, true, slices.Concat([]byte{128}, noughts(8190), []byte{1}), 0, turned(ends(65536)), api.OK)
	for _, m := range [][]byte{{1}, {2}, {0, 128}, {1, 0}, long} {
		for _, e := range []int{65537, 1 << 32, 1 << 62, math.MaxInt - 1, math.MaxInt, -65553, -1 << 32, -1 << 62, math.MinInt + 1, math.MinInt} {
			expectMake(t, false, m, e, api.Dyad{}, api.ErrBits)
			expectMake(t, true, m, e, api.Dyad{}, api.ErrBits)
		}
	}
}

// 14.2: of any bytes it is the value's one form.
func TestMakeIsTheValue(t *testing.T) {
	var m oracle.Mixer
	for range 3000 {
		b := noughts(m.Below(4))
		for range m.Below(12) {
			b = append(b, byte(m.Word())&byte(m.Word()))
		}
		b = append(b, noughts(m.Below(4))...)
		neg, e := m.Below(2) == 0, m.Below(400)-200
		expectMake(t, neg, b, e, formed(oracle.Value(api.Dyad{Neg: neg, M: b, E: e})), api.OK)
	}
}
