package shadow

import (
	"slices"
	"testing"

	"ambit/api"
	"ambit/oracle"
)

// A third way to the exact corners, without any order of vectors: all points that the vectors' ends make, and what lies around them.

// allEnds are the middle and every sum of the vectors, each with one sign or the other.
func allEnds(z api.Zono, i, j int) []spot {
	all := []spot{{oracle.Exact(z.C[i]), oracle.Exact(z.C[j])}}
	for _, v := range wantVectors(z, i, j) {
		var more []spot
		for _, a := range all {
			for _, b := range []spot{a.plus(1, v), a.plus(-1, v)} {
				if !slices.ContainsFunc(more, b.same) {
					more = append(more, b)
				}
			}
		}
		all = more
	}
	return all
}

// lowest is the one that no other is below, and of those the one on the left.
func lowest(all []spot) spot {
	return slices.MinFunc(all, func(a, b spot) int {
		if order := a.y.Cmp(b.y); order != 0 {
			return order
		}
		return a.x.Cmp(b.x)
	})
}

// around are the corners of what lies around points, against the clock from the lowest on: behind a corner comes the point to the right of which, seen from there, no other lies, and of those on one line the farthest.
func around(all []spot) []spot {
	first := lowest(all)
	var corners []spot
	for at := first; ; {
		corners = append(corners, at)
		next := at
		for _, b := range all {
			way, other := next.plus(-1, at), b.plus(-1, at)
			turn := way.cross(other).Sign()
			if next.same(at) || turn < 0 || turn == 0 && other.dot(other).Cmp(way.dot(way)) > 0 {
				next = b
			}
		}
		if at = next; at.same(first) {
			return corners
		}
	}
}

// 21.1, 21.6: the corners are those of all points that the vectors' ends make.
func TestCornersLieAround(t *testing.T) {
	t.Parallel()
	var m oracle.Mixer
	seen := oracle.Tally{}
	for range 2500 {
		z, i, j := mixed(&m)
		if len(z.G) > 4 {
			z.Ids, z.G = z.Ids[:4], z.G[:4]
		}
		p, far, e := Polygon(z, i, j)
		if e != api.OK {
			continue
		}
		corners := around(allEnds(z, i, j))
		if len(corners) != len(p) {
			t.Fatalf("Polygon(%s, %d, %d): %s, but %d corners lie around", text(z), i, j, text(p), len(corners))
		}
		for k, c := range corners {
			x, y := oracle.Roundings(c.x), oracle.Roundings(c.y)
			if !oracle.Same(real(p[k]), x.Number[api.Near]) || !oracle.Same(imag(p[k]), y.Number[api.Near]) {
				t.Fatalf("Polygon(%s, %d, %d): %s, but the corner %d lies at %v and %v", text(z), i, j, text(p), k, c.x, c.y)
			}
		}
		seen.Note("a point", len(p) == 1)
		seen.Note("a line", len(p) == 2)
		seen.Note("four corners", len(p) == 4)
		seen.Note("more", len(p) > 4)
		seen.Note("off", far > 0)
	}
	seen.Expect(t, 60, "a point", "a line", "four corners", "more", "off")
}
