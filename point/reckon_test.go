package point

import (
	"math"
	"math/big"
	"testing"

	"ambit/api"
	"ambit/oracle"
)

// errnoOf is OK of what is small enough, and ErrBits else.
func errnoOf(ok bool) api.Errno {
	if ok {
		return api.OK
	}
	return api.ErrBits
}

// expectExact holds an operation to the exact real.
func (o operation) expectExact(t *testing.T, x, y api.Dyad) bool {
	t.Helper()
	want, ok := oracle.Form(o.exact(new(big.Rat), oracle.Value(x), oracle.Value(y)))
	o.expect(t, x, y, want, errnoOf(ok))
	return ok
}

// 14.3: Add, Sub and Mul are exact.
func TestOperationsAreExact(t *testing.T) {
	var m oracle.Mixer
	for range 3000 {
		x, y := someDyad(&m), someDyad(&m)
		if m.Below(6) == 0 {
			y = turned(x)
		}
		for _, o := range operations() {
			o.expectExact(t, x, y)
		}
	}
}

// 14.3: likewise of every two at which something changes: many answers are too long.
func TestOperationsAtEdges(t *testing.T) {
	t.Parallel()
	seen := oracle.Tally{}
	all := edges()
	for i, x := range all {
		for j, y := range all {
			if (i+j)%3 > 0 && i != j {
				continue
			}
			for _, o := range operations() {
				ok := o.expectExact(t, x, y)
				seen.Note(o.name, ok)
				seen.Note(o.name+" too long", !ok)
			}
		}
	}
	for _, o := range operations() {
		seen.Expect(t, 100, o.name, o.name+" too long")
	}
}

// 14.3: sums that lose bits at either end or become 0, and what is just small enough.
func TestSumsAtTheLimits(t *testing.T) {
	for _, c := range []struct {
		x, y, sum api.Dyad
		ok        bool
	}{
		{dyad(1, 0), dyad(1, 0), dyad(1, 1), true},
		{dyad(255, 0), dyad(1, 0), dyad(1, 8), true},
		{dyad(0x10001, 0), dyad(-0x10000+1, 0), dyad(1, 1), true},
		{dyad(5, 9), dyad(-5, 9), api.Dyad{}, true},
		{ones(65536), turned(ones(65536)), api.Dyad{}, true},
		{dyad(1, 65536), dyad(-1, 65536), api.Dyad{}, true},
		{ones(65536), dyad(1, 0), dyad(1, 65536), true},
		{ones(65536), dyad(1, 1), api.Dyad{}, false},
		{ones(65536), dyad(-1, 0), raised(ones(65535), 1), true},
		{dyad(1, 65535), dyad(1, 0), ends(65536), true},
		{dyad(1, 65536), dyad(1, 0), api.Dyad{}, false},
		{dyad(1, 65536), dyad(-1, 0), ones(65536), true},
		{dyad(1, 65536), dyad(-1, -1), api.Dyad{}, false},
		{dyad(1, 65536), dyad(1, 65536), api.Dyad{}, false},
		{dyad(1, 65535), dyad(1, 65535), dyad(1, 65536), true},
		{dyad(3, 65536), dyad(-1, 65536), api.Dyad{}, false},
		{dyad(3, 65535), dyad(-1, 65535), dyad(1, 65536), true},
		{dyad(1, -65536), dyad(1, -65536), dyad(1, -65535), true},
		{dyad(1, -65536), dyad(1, -1), raised(ends(65536), -65536), true},
		{dyad(1, -65536), dyad(1, 0), api.Dyad{}, false},
		{dyad(1, -65536), dyad(1, 65536), api.Dyad{}, false},
		{raised(ones(65536), 65536), dyad(1, 65536), api.Dyad{}, false},
		{raised(ones(65536), -65536), dyad(1, -65536), dyad(1, 0), true},
	} {
		add, sub := operations()[0], operations()[1]
		add.expect(t, c.x, c.y, c.sum, errnoOf(c.ok))
		add.expect(t, c.y, c.x, c.sum, errnoOf(c.ok))
		sub.expect(t, c.x, turned(c.y), c.sum, errnoOf(c.ok))
		sub.expect(t, turned(c.y), c.x, turned(c.sum), errnoOf(c.ok))
	}
}

// 14.3: products that are just small enough, and those that are not.
func TestProductsAtTheLimits(t *testing.T) {
	for _, c := range []struct {
		x, y, product api.Dyad
		ok            bool
	}{
		{api.Dyad{}, dyad(1, 65536), api.Dyad{}, true},
		{api.Dyad{}, raised(ones(65536), -65536), api.Dyad{}, true},
		{dyad(1, 65536), dyad(1, -65536), dyad(1, 0), true},
		{dyad(1, 65535), dyad(1, 1), dyad(1, 65536), true},
		{dyad(1, 65536), dyad(1, 1), api.Dyad{}, false},
		{dyad(1, 65536), dyad(1, 65536), api.Dyad{}, false},
		{dyad(1, -65535), dyad(3, -1), dyad(3, -65536), true},
		{dyad(1, -65536), dyad(3, -1), api.Dyad{}, false},
		{dyad(1, -65536), dyad(1, -65536), api.Dyad{}, false},
		{ones(65536), dyad(1, 65536), raised(ones(65536), 65536), true},
		{ones(65536), dyad(3, 0), api.Dyad{}, false},
		{ends(65535), dyad(3, 0), formed(new(big.Rat).Mul(big.NewRat(3, 1), oracle.Value(ends(65535)))), true},
		{ends(65536), dyad(3, 0), api.Dyad{}, false},
		{ones(32768), ones(32769), api.Dyad{}, false},
		{ones(65536), ones(65536), api.Dyad{}, false},
	} {
		for _, sign := range []api.Dyad{dyad(1, 0), dyad(-1, 0)} {
			x, want := c.x, c.product
			if sign.Neg {
				x, want = turned(x), turned(want)
			}
			mul := operations()[2]
			mul.expect(t, x, c.y, want, errnoOf(c.ok))
			mul.expect(t, c.y, x, want, errnoOf(c.ok))
		}
	}
	for _, pair := range [][2]api.Dyad{{ones(32768), ones(32768)}, {ends(32769), ends(32768)}} {
		if !operations()[2].expectExact(t, pair[0], pair[1]) {
			t.Error("a product of MaxBits bits is too long")
		}
	}
	if operations()[2].expectExact(t, ends(32769), ends(32769)) {
		t.Error("a product of a bit more is not too long")
	}
}

// 14.3: an argument that is none is told ahead of an answer that is too long.
func TestOperationsRefuse(t *testing.T) {
	for _, none := range nones() {
		for _, o := range operations() {
			for _, x := range []api.Dyad{{}, dyad(1, 0), dyad(1, 65536), raised(ones(65536), -65536), none} {
				o.expect(t, x, none, api.Dyad{}, api.ErrArg)
				o.expect(t, none, x, api.Dyad{}, api.ErrArg)
			}
		}
		for _, n := range []int{0, 1, -1, 65537, math.MaxInt, math.MinInt} {
			expectShift(t, none, n, api.Dyad{}, api.ErrArg)
		}
		for _, x := range []api.Dyad{{}, dyad(3, 1), none} {
			expectCmp(t, none, x, 0, false)
			expectCmp(t, x, none, 0, false)
		}
	}
}

// 14.3: Shift by every n, the least and the greatest int among them; 0 stays 0.
func TestShift(t *testing.T) {
	far := []int{math.MaxInt, math.MaxInt - 1, math.MaxInt - 65536, 1 << 62, 1 << 32, 131073 + 65536}
	for _, n := range far {
		expectShift(t, api.Dyad{}, n, api.Dyad{}, api.OK)
		expectShift(t, api.Dyad{}, -n, api.Dyad{}, api.OK)
		expectShift(t, api.Dyad{}, -n-1, api.Dyad{}, api.OK)
		for _, x := range edges()[1:] {
			expectShift(t, x, n, api.Dyad{}, api.ErrBits)
			expectShift(t, x, -n, api.Dyad{}, api.ErrBits)
			expectShift(t, x, -n-1, api.Dyad{}, api.ErrBits)
		}
	}
	for _, x := range edges()[1:] {
		for _, e := range []int{-65536, -65535, -1, 0, 1, 2, 65535, 65536} {
			expectShift(t, x, e-x.E, raised(x, e), api.OK)
		}
		for _, e := range []int{-65537, -65538, 65537, 65538, 131072, -131072, 196608, -196608} {
			expectShift(t, x, e-x.E, api.Dyad{}, api.ErrBits)
		}
	}
}

// 14.4: Cmp holds values against each other.
func TestCmp(t *testing.T) {
	var m oracle.Mixer
	all := edges()
	for range 60 {
		all = append(all, someDyad(&m))
	}
	for i, x := range all {
		v := oracle.Value(x)
		expectCmp(t, x, x, 0, true)
		for j, y := range all {
			if (i+j)%4 == 0 {
				expectCmp(t, x, y, v.Cmp(oracle.Value(y)), true)
			}
		}
	}
	expectCmp(t, ones(65536), dyad(1, 65536), -1, true)
	expectCmp(t, dyad(1, 65536), ones(65536), 1, true)
	expectCmp(t, dyad(1, -65536), api.Dyad{}, 1, true)
	expectCmp(t, dyad(1, -65536), dyad(1, 65536), -1, true)
	expectCmp(t, dyad(-1, -65536), dyad(-1, 65536), 1, true)
	expectCmp(t, api.Dyad{M: []byte{}}, api.Dyad{}, 0, true)
}
