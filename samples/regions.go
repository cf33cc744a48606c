package samples

import (
	"math"
	"slices"

	"ambit/api"
	"ambit/oracle"
)

// Cube is the whole cube of k symbols.
func Cube(k int) api.Region { return api.Region{Level: make([]int, k), At: make([]int, k)} }

// Region is one of levels and places, one behind the other.
func Region(pairs ...int) api.Region {
	var r api.Region
	for i := 0; i < len(pairs); i += 2 {
		r.Level, r.At = append(r.Level, pairs[i]), append(r.At, pairs[i+1])
	}
	return r
}

// MixedRegion is a region of k symbols; its levels are often the least or the greatest, its places often the first or the last.
func MixedRegion(m *oracle.Mixer, k int) api.Region {
	r := Cube(k)
	for s := range k {
		level := []int{0, 0, 1, api.MaxDepth, m.Below(api.MaxDepth + 1)}[m.Below(5)]
		r.Level[s], r.At[s] = level, []int{0, 1<<level - 1, m.Below(1 << level)}[m.Below(3)]
	}
	return r
}

// NoRegions are no regions of k symbols, each for another reason.
func NoRegions(k int) []api.Region {
	all := []api.Region{{Level: make([]int, k+1), At: make([]int, k+1)}, {Level: make([]int, k), At: make([]int, k+1)}, {Level: make([]int, k+1), At: make([]int, k)}}
	for _, n := range []int{0, k - 1} {
		if n >= 0 && n < k {
			all = append(all, Cube(n), api.Region{Level: make([]int, k), At: make([]int, n)}, api.Region{Level: make([]int, n), At: make([]int, k)})
		}
	}
	for s := range k {
		for _, pair := range noPairs() {
			r := Cube(k)
			r.Level[s], r.At[s] = pair[0], pair[1]
			all = append(all, r)
		}
	}
	return all
}

// noPairs are levels and places that no symbol has.
func noPairs() [][2]int {
	all := [][2]int{{-1, 0}, {9, 0}, {10, 3}, {-1, -1}, {64, 0}, {63, 0}, {65, 0}, {1 << 32, 0}, {math.MaxInt, 0}, {math.MinInt, 0}, {math.MaxInt, math.MaxInt}, {9, 511}, {-8, 1}}
	for level := range api.MaxDepth + 1 {
		for _, at := range []int{-1, 1 << level, 1<<level + 1, 1 << 32, math.MaxInt, math.MinInt} {
			all = append(all, [2]int{level, at})
		}
	}
	return all
}

// AnyRegion is a region of k symbols, or one in which something or other is wrong.
func AnyRegion(m *oracle.Mixer, k int) api.Region {
	r := MixedRegion(m, k)
	switch m.Below(8) {
	case 0:
		r.Level = append(r.Level, 0)
	case 1:
		r.At = nil
	case 2:
		return MixedRegion(m, m.Below(4))
	case 3:
		if k > 0 {
			r.Level[m.Below(k)] = AnyWhole(m)
		}
	case 4:
		if k > 0 {
			r.At[m.Below(k)] = AnyWhole(m)
		}
	}
	return r
}

// RoomyRegion is a region with more behind the end of both of its lists.
func RoomyRegion(r api.Region) api.Region {
	return api.Region{Level: Roomy(r.Level, 7), At: Roomy(r.At, 8)}
}

// WholeRegion is a copy of a region in which the room behind each list counts as a part of it.
func WholeRegion(r api.Region) api.Region {
	return api.Region{Level: slices.Clone(Whole(r.Level)), At: slices.Clone(Whole(r.At))}
}

// SameRegion tells whether two regions are alike; nil and empty lists are.
func SameRegion(a, b api.Region) bool {
	return slices.Equal(a.Level, b.Level) && slices.Equal(a.At, b.At)
}

// Halves are a region's halves by a symbol.
func Halves(r api.Region, s int) (lower, upper api.Region) {
	lower = api.Region{Level: slices.Clone(r.Level), At: slices.Clone(r.At)}
	upper = api.Region{Level: slices.Clone(r.Level), At: slices.Clone(r.At)}
	lower.Level[s], upper.Level[s] = r.Level[s]+1, r.Level[s]+1
	lower.At[s], upper.At[s] = 2*r.At[s], 2*r.At[s]+1
	return lower, upper
}
