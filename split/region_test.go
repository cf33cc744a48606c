package split

import (
	"testing"

	"ambit/api"
	"ambit/samples"
)

// 18.1: every number of symbols, none among them.
func TestWholeOfEachNumber(t *testing.T) {
	for k := range 257 {
		expectWhole(t, k, api.Region{Level: make([]int, k), At: make([]int, k)})
	}
	expectWhole(t, 3, region(0, 0, 0, 0, 0, 0))
}

// 18.1: too many, and fewer than none.
func TestWholeOutOfBounds(t *testing.T) {
	for _, k := range append(strange(), 257, 258, 512) {
		expectNoWhole(t, k)
	}
}

// 18.2: every part of every level, at the first and at the last symbol.
func TestCheckOfEachPart(t *testing.T) {
	for _, p := range parts() {
		expectCheck(t, region(p[0], p[1]), 1, api.OK)
		expectCheck(t, region(p[0], p[1], 0, 0, 8, 255), 3, api.OK)
		expectCheck(t, region(8, 255, 3, 7, p[0], p[1]), 3, api.OK)
	}
}

// 18.2: levels and places just outside, at each symbol.
func TestCheckJustOutside(t *testing.T) {
	for level := range 9 {
		for _, at := range append(strange(), 1<<level, 1<<level+1, 1<<(level+1)) {
			expectCheck(t, region(level, at), 1, api.ErrRegion)
			expectCheck(t, region(level, at, 8, 0, 0, 0), 3, api.ErrRegion)
			expectCheck(t, region(0, 0, 8, 255, level, at), 3, api.ErrRegion)
		}
	}
	for _, level := range append(strange(), 9, 10, 62, 63, 64, 65, 128) {
		for _, at := range []int{-1, 0, 1, 255, 256} {
			expectCheck(t, region(level, at), 1, api.ErrRegion)
			expectCheck(t, region(0, 0, level, at), 2, api.ErrRegion)
		}
	}
}

// 18.2: lists of other lengths than k, nil ones among them.
func TestCheckOfLengths(t *testing.T) {
	for k := range 5 {
		for levels := range 6 {
			for places := range 6 {
				want := api.ErrRegion
				if levels == k && places == k {
					want = api.OK
				}
				expectCheck(t, api.Region{Level: make([]int, levels), At: make([]int, places)}, k, want)
			}
		}
		expectCheck(t, samples.Cube(k), k+1, api.ErrRegion)
	}
	expectCheck(t, api.Region{}, 0, api.OK)
	expectCheck(t, api.Region{Level: wholes(), At: wholes()}, 0, api.OK)
	expectCheck(t, api.Region{}, 1, api.ErrRegion)
}

// 18.2: as many symbols as may be, and one more: of so many there is no region.
func TestCheckOfManySymbols(t *testing.T) {
	expectCheck(t, samples.Cube(255), 255, api.OK)
	expectCheck(t, samples.Cube(256), 256, api.OK)
	expectCheck(t, samples.Cube(257), 257, api.ErrRegion)
	expectCheck(t, samples.Cube(1000), 1000, api.ErrRegion)
	expectCheck(t, samples.Cube(256), 257, api.ErrRegion)
	expectCheck(t, samples.Cube(257), 256, api.ErrRegion)
	for _, k := range strange() {
		expectCheck(t, api.Region{}, k, api.ErrRegion)
		expectCheck(t, samples.Cube(2), k, api.ErrRegion)
	}
	r := samples.Cube(256)
	r.Level[255], r.At[255] = 8, 255
	expectCheck(t, r, 256, api.OK)
	r.At[255] = 256
	expectCheck(t, r, 256, api.ErrRegion)
}

// 18.2: what is no region for one reason alone.
func TestCheckOfNoRegions(t *testing.T) {
	for k := range 4 {
		for _, r := range samples.NoRegions(k) {
			expectCheck(t, r, k, api.ErrRegion)
		}
	}
	for _, r := range noRegions() {
		expectCheck(t, r, len(r.Level), api.ErrRegion)
	}
}

// 18.3: both halves of every part that may be halved.
func TestHalvesOfEachPart(t *testing.T) {
	for _, p := range parts() {
		level, at := p[0], p[1]
		if level == 8 {
			expectNoHalves(t, region(level, at), 0, api.ErrArg)
			continue
		}
		expectHalves(t, region(level, at), 0, region(level+1, 2*at), region(level+1, 2*at+1))
	}
}

// 18.3: the first, a middle and the last symbol; all others stay as they were.
func TestHalvesOfEachSymbol(t *testing.T) {
	r := region(3, 5, 0, 0, 7, 127)
	expectHalves(t, r, 0, region(4, 10, 0, 0, 7, 127), region(4, 11, 0, 0, 7, 127))
	expectHalves(t, r, 1, region(3, 5, 1, 0, 7, 127), region(3, 5, 1, 1, 7, 127))
	expectHalves(t, r, 2, region(3, 5, 0, 0, 8, 254), region(3, 5, 0, 0, 8, 255))
	wide := samples.Cube(256)
	for _, s := range []int{0, 1, 128, 254, 255} {
		lower, upper := samples.Cube(256), samples.Cube(256)
		lower.Level[s], upper.Level[s], upper.At[s] = 1, 1, 1
		expectHalves(t, wide, s, lower, upper)
	}
}

// 18.3: no symbol of the region.
func TestHalvesOfNoSymbol(t *testing.T) {
	for _, s := range append(strange(), 3, 4, 256) {
		expectNoHalves(t, region(0, 0, 1, 1, 2, 2), s, api.ErrArg)
	}
	for _, s := range append(strange(), 0, 1) {
		expectNoHalves(t, api.Region{}, s, api.ErrArg)
		expectNoHalves(t, api.Region{Level: wholes(), At: wholes()}, s, api.ErrArg)
	}
	expectNoHalves(t, samples.Cube(256), 256, api.ErrArg)
}

// 18.3: a symbol that was halved as often as may be, beside such as were not.
func TestHalvesAtTheGreatestLevel(t *testing.T) {
	r := region(7, 3, 8, 0, 8, 255)
	expectHalves(t, r, 0, region(8, 6, 8, 0, 8, 255), region(8, 7, 8, 0, 8, 255))
	expectNoHalves(t, r, 1, api.ErrArg)
	expectNoHalves(t, r, 2, api.ErrArg)
}

// 18.3, rule 5: what is no region is told ahead of what is no symbol.
func TestHalvesOfNoRegions(t *testing.T) {
	for _, r := range noRegions() {
		for _, s := range []int{-1, 0, 1, 2, 256, 1000} {
			expectNoHalves(t, r, s, api.ErrRegion)
		}
	}
	expectNoHalves(t, region(8, 256), 0, api.ErrRegion)
	expectNoHalves(t, region(0, 0, 9, 0), 0, api.ErrRegion)
}

// 18.4: all levels together, whatever the places are.
func TestWays(t *testing.T) {
	expectWay(t, api.Region{}, 0)
	expectWay(t, api.Region{Level: wholes(), At: wholes()}, 0)
	for _, p := range parts() {
		expectWay(t, region(p[0], p[1]), p[0])
		expectWay(t, region(1, 1, p[0], p[1], 5, 17), p[0]+6)
	}
	r := samples.Cube(256)
	expectWay(t, r, 0)
	for s := range r.Level {
		r.Level[s], r.At[s] = 8, s
	}
	expectWay(t, r, 2048)
}

// 18.4: what is no region.
func TestWaysOfNoRegions(t *testing.T) {
	for _, r := range noRegions() {
		expectNoWay(t, r)
	}
}
