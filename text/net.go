package text

import (
	"strings"

	"ambit/api"
	"ambit/model"
)

func (p *printer) net(n api.Net) {
	p.word("net")
	p.wholes(n.In.C, n.In.H, n.In.W)
	p.endLine()
	for _, l := range n.Layers {
		p.layer(l)
	}
	if len(n.Names) > 0 {
		p.word("names")
		for _, s := range n.Names {
			p.word(s)
		}
		p.endLine()
	}
	p.last()
}

func (p *printer) layer(l api.Layer) {
	p.word(heads[l.Kind])
	for _, n := range wholesOf(&l) {
		p.wholes(*n)
	}
	if hasA(l.Kind) {
		p.numbers(l.A)
	}
	p.endLine()
	if hasLists(l.Kind) {
		p.list("w", l.W)
		p.list("b", l.B)
	}
	if hasComplexLists(l.Kind) {
		p.complexList("z", l.Z)
		p.complexList("zb", l.ZB)
	}
}

// A netReader reads a network.
type netReader struct {
	reader
	starts []int // the lines of `net` and of each layer's head
}

func (r *netReader) net() api.Net {
	var n api.Net
	r.start("net")
	n.In = api.Shape{C: r.whole(), H: r.whole(), W: r.whole()}
	r.close()
	for kind, ok := kindOf(r.ahead()); ok; kind, ok = kindOf(r.ahead()) {
		n.Layers = append(n.Layers, r.layer(kind))
	}
	if r.ahead() == "names" {
		n.Names = r.names()
	}
	r.last()
	e, at := model.Check(n)
	refuseIf(e != api.OK, e, r.starts[at])
	return n
}

// start takes a line of which model.Check may complain.
func (r *netReader) start(head string) {
	r.take(head)
	r.starts = append(r.starts, r.at)
}

func (r *netReader) layer(kind int) api.Layer {
	l := api.Layer{Kind: kind}
	r.start(heads[kind])
	for _, n := range wholesOf(&l) {
		*n = r.whole()
	}
	if hasA(kind) {
		l.A = r.number()
	}
	r.close()
	if hasLists(kind) {
		l.W, l.B = r.list("w"), r.list("b")
	}
	if hasComplexLists(kind) {
		l.Z, l.ZB = r.complexList("z"), r.complexList("zb")
	}
	return l
}

func (r *netReader) names() []string {
	r.take("names")
	all := []string{r.name()}
	return append(all, rest(&r.reader, r.name)...)
}

// name is a word in memory of its own: as a part of the text it would keep all of that.
func (r *netReader) name() string { return strings.Clone(r.word()) }
