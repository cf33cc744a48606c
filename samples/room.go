package samples

import (
	"slices"

	"ambit/api"
)

// Roomy is a list with more behind its end.
func Roomy[T any](l []T, behind T) []T {
	return append(slices.Clone(l), behind, behind, behind)[:len(l)]
}

// Whole tells all of a list, with the room behind its end.
func Whole[T any](l []T) []T { return l[:cap(l)] }

// Scribble writes all over a list, behind its end too.
func Scribble[T any](l []T, what T) {
	for i := range Whole(l) {
		Whole(l)[i] = what
	}
}

// Sharing is the first of some lists that shares memory with another one, the room behind them too; -1, if none does. It writes all over them: into each its own mark.
func Sharing[T comparable](lists [][]T, mark func(i int) T) int {
	for i, l := range lists {
		Scribble(l, mark(i))
	}
	for i, l := range lists {
		if slices.ContainsFunc(Whole(l), func(a T) bool { return a != mark(i) }) {
			return i
		}
	}
	return -1
}

// RoomyLayer is a layer with more behind the end of each of its lists.
func RoomyLayer(l api.Layer) api.Layer {
	l.W, l.B = Roomy(l.W, 7), Roomy(l.B, 8)
	l.Z, l.ZB = Roomy(l.Z, 9i), Roomy(l.ZB, 10i)
	return l
}

func RoomyNet() api.Net { return RoomyNetOf(Chain()) }

// RoomyNetOf is a network with more behind the end of each of its lists.
func RoomyNetOf(n api.Net) api.Net {
	n.Layers, n.Names = Roomy(n.Layers, Relu()), Roomy(n.Names, "behind")
	for i, l := range n.Layers {
		n.Layers[i] = RoomyLayer(l)
	}
	return n
}

func RoomyProp() api.Prop { return RoomyPropOf(Question()) }

// RoomyPropOf is a question with more behind the end of each of its lists.
func RoomyPropOf(p api.Prop) api.Prop {
	p.C, p.G, p.Claims = Roomy(p.C, 7), Roomy(p.G, []float64{1}), Roomy(p.Claims, []float64{2})
	for i, g := range p.G {
		p.G[i] = Roomy(g, 8)
	}
	for i, c := range p.Claims {
		p.Claims[i] = Roomy(c, 9)
	}
	return p
}

// Lists are all lists of numbers of a network.
func Lists(n api.Net) (numbers [][]float64, pairs [][]complex128) {
	for _, l := range n.Layers {
		numbers = append(numbers, l.W, l.B)
		pairs = append(pairs, l.Z, l.ZB)
	}
	return numbers, pairs
}

// WholeNet is a copy of a network in which the room behind each list counts as a part of it: so SameNet looks at that too.
func WholeNet(n api.Net) api.Net {
	n.Layers, n.Names = slices.Clone(Whole(n.Layers)), slices.Clone(Whole(n.Names))
	for i, l := range n.Layers {
		l.W, l.B = slices.Clone(Whole(l.W)), slices.Clone(Whole(l.B))
		l.Z, l.ZB = slices.Clone(Whole(l.Z)), slices.Clone(Whole(l.ZB))
		n.Layers[i] = l
	}
	return n
}

// WholeProp is such a copy of a question.
func WholeProp(p api.Prop) api.Prop {
	p.C, p.G, p.Claims = slices.Clone(Whole(p.C)), slices.Clone(Whole(p.G)), slices.Clone(Whole(p.Claims))
	for _, lists := range [][][]float64{p.G, p.Claims} {
		for i, l := range lists {
			lists[i] = slices.Clone(Whole(l))
		}
	}
	return p
}
