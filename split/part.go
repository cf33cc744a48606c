package split

import "ambit/api"

// A part is what a region has of one symbol: how often that was halved, and which of its parts this is.
type part struct{ level, at int }

// exists tells whether there is such a part.
func (p part) exists() bool {
	return p.level >= 0 && p.level <= api.MaxDepth && p.at >= 0 && p.at < 1<<p.level
}

// halves are the lower half and the upper one.
func (p part) halves() (lower, upper part) {
	return part{p.level + 1, 2 * p.at}, part{p.level + 1, 2*p.at + 1}
}

// end is the end of the part that a sign tells, or its middle, in parts of 2 to the depth; that is not below the level.
func (p part) end(sign, depth int) int {
	return -1<<depth + (2*p.at+1+sign)<<(depth-p.level)
}

// holds tells whether a point lies in the part: e, in parts of 2 to the depth.
func (p part) holds(e, depth int) bool {
	if e < -1<<depth || e > 1<<depth {
		return false
	}
	below, above := beside(e, depth, p.level)
	return p == below || p == above
}

// beside are the parts of a level on both sides of a point of the cube: one and the same, unless the point lies just on a cut. Beyond an end of the cube is one that does not exist: that at -1, or at 2 to the level.
func beside(e, depth, level int) (below, above part) {
	// The cuts of a level are whole numbers from its own depth on.
	if depth < level {
		e, depth = e<<(level-depth), level
	}
	// From one end to the other it may be 2^63, which no int holds.
	fromEnd := uint64(e) + 1<<depth
	twos := depth + 1 - level
	return part{level, int(int64(fromEnd-1) >> twos)}, part{level, int(fromEnd >> twos)}
}

// partsOf are the parts of a region, a symbol each; false, if it is no region of k symbols.
func partsOf(r api.Region, k int) ([]part, bool) {
	if k > api.MaxSymbols || len(r.Level) != k || len(r.At) != k {
		return nil, false
	}
	parts := make([]part, k)
	for s := range parts {
		parts[s] = part{r.Level[s], r.At[s]}
		if !parts[s].exists() {
			return nil, false
		}
	}
	return parts, true
}

// regionOf is the region that has these parts.
func regionOf(parts []part) api.Region {
	r := api.Region{Level: make([]int, len(parts)), At: make([]int, len(parts))}
	for s, p := range parts {
		r.Level[s], r.At[s] = p.level, p.at
	}
	return r
}
