package shadow

import (
	"slices"

	"ambit/api"
)

// A side is the vectors that point one way. Their sum need not be a pair of numbers, so they are kept one by one.
type side []complex128

// middleOf is the point that the shadow lies about.
func middleOf(z api.Zono, i, j int) complex128 { return complex(z.C[i], z.C[j]) }

// vectorsOf are the shadow's vectors, (0, 0) too.
func vectorsOf(z api.Zono, i, j int) []complex128 {
	var all []complex128
	for _, g := range z.G {
		all = append(all, complex(g[i], g[j]))
	}
	if i == j {
		// One box moves both coordinates at once.
		return append(all, complex(z.R[i], z.R[i]))
	}
	return append(all, complex(z.R[i], 0), complex(0, z.R[j]))
}

// sidesOf are the sides that vectors make, in the order in which they turn to the left.
func sidesOf(vectors []complex128) []side {
	var all []complex128
	for _, v := range vectors {
		if v != 0 {
			all = append(all, upward(v))
		}
	}
	slices.SortFunc(all, byTurn)
	return parted(all)
}

// upward is v or v turned: of the two the one that points up, or, if neither does, to the right. The shadow of both is the same.
func upward(v complex128) complex128 {
	if imag(v) < 0 || imag(v) == 0 && real(v) < 0 {
		return complex(-real(v), -imag(v))
	}
	return v
}

// byTurn is -1, 0 or 1, as v lies to the left of u, points the same way, or lies to the right of it, of two that point upward.
func byTurn(u, v complex128) int {
	order, _ := product(imag(u), real(v)).Cmp(product(real(u), imag(v)))
	return order
}

// parted are the sides of vectors that are in order.
func parted(vectors []complex128) []side {
	var sides []side
	for len(vectors) > 0 {
		n := 1
		for n < len(vectors) && byTurn(vectors[0], vectors[n]) == 0 {
			n++
		}
		sides, vectors = append(sides, vectors[:n]), vectors[n:]
	}
	return sides
}
