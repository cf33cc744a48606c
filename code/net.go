package code

import (
	"slices"

	"ambit/api"
	"ambit/model"
	"ambit/wire"
)

// wholesOf are the whole numbers that a layer has by its kind, in their order in the bytes; a kind that is none has no further one.
func wholesOf(l *api.Layer) []*int {
	switch l.Kind {
	case api.KDense, api.KTurn:
		return []*int{&l.Out}
	case api.KConv:
		return []*int{&l.Out, &l.KH, &l.KW, &l.SH, &l.SW, &l.PH, &l.PW}
	case api.KMean, api.KMax:
		return []*int{&l.KH, &l.KW, &l.SH, &l.SW, &l.PH, &l.PW}
	case api.KAdd:
		return []*int{&l.From}
	}
	return nil
}

// hasA tells whether a layer of this kind has the number A.
func hasA(kind int) bool { return kind == api.KMean || kind == api.KLeaky }

func (w *writer) net(n api.Net) {
	w.head(netMagic)
	w.wholes(n.In.C, n.In.H, n.In.W, len(n.Layers))
	for _, l := range n.Layers {
		w.layer(l)
	}
	w.wholes(len(n.Names))
	for _, s := range n.Names {
		w.put(wire.Text(s))
	}
}

func (w *writer) layer(l api.Layer) {
	w.wholes(l.Kind)
	for _, n := range wholesOf(&l) {
		w.wholes(*n)
	}
	if hasA(l.Kind) {
		w.numbers(l.A)
	}
	w.numbers(l.W...)
	w.numbers(l.B...)
	w.complexNumbers(l.Z)
	w.complexNumbers(l.ZB)
}

// A netReader reads a network.
type netReader struct {
	cursor
	shapes  []api.Shape // of the outputs so far, the input's ahead
	weights int         // how many numbers the lists so far have
	names   []string    // those so far
}

// ahead is the shape of the last output so far.
func (r *netReader) ahead() api.Shape { return r.shapes[len(r.shapes)-1] }

func (r *netReader) net() api.Net {
	r.head(netMagic)
	n := api.Net{In: r.shape()}
	r.shapes = append(r.shapes, n.In)
	n.Layers = list(r.count(0, api.MaxLayers), r.layer)
	for range r.nameCount() {
		r.names = append(r.names, r.name())
	}
	n.Names = r.names
	r.end()
	return n
}

func (r *netReader) shape() api.Shape {
	at := r.at
	s := api.Shape{C: r.whole(), H: r.whole(), W: r.whole()}
	_, e := model.Size(s)
	refuseIf(e != api.OK, e, at)
	return s
}

func (r *netReader) layer() api.Layer {
	at := r.at
	l := api.Layer{Kind: r.whole()}
	for _, n := range wholesOf(&l) {
		*n = r.whole()
	}
	if hasA(l.Kind) {
		l.A = r.number()
	}
	w, b, z, zb := r.lists(l, at)
	l.W, l.B = list(w, r.number), list(b, r.number)
	l.Z, l.ZB = list(z, r.complexNumber), list(zb, r.complexNumber)
	return l
}

// lists is how long the lists of a layer that begins at a place are: it is put behind the layers ahead, if it may stand there.
func (r *netReader) lists(l api.Layer, at int) (w, b, z, zb int) {
	ahead := r.ahead()
	out, e := model.Out(l, ahead)
	refuseIf(e != api.OK, e, at)
	refuseIf(l.Kind == api.KAdd && (l.From >= len(r.shapes) || r.shapes[l.From] != ahead), api.ErrFrom, at)
	w, b, z, zb, _ = model.Lists(l, ahead)
	r.weights += w + b + 2*(z+zb)
	refuseIf(r.weights > api.MaxWeights, api.ErrSize, at)
	r.shapes = append(r.shapes, out)
	return w, b, z, zb
}

func (r *netReader) nameCount() int {
	at := r.at
	n := r.whole()
	size, _ := model.Size(r.ahead())
	refuseIf(n != 0 && n != size, api.ErrCount, at)
	return n
}

func (r *netReader) name() string {
	at := r.at
	s := r.text(4 * api.MaxName)
	refuseIf(!model.Name(s) || slices.Contains(r.names, s), api.ErrName, at)
	return s
}
