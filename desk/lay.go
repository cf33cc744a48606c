package desk

import (
	"ambit/api"
	"ambit/code"
	"ambit/model"
	"ambit/text"
)

func (x *Desk) readNet(a args) string { return x.layNet(text.ReadNet(a.literal)) }

func (x *Desk) decodeNet(a args) string { return x.layNet(code.DecodeNet(a.bytes)) }

func (x *Desk) readProp(a args) string { return x.layProp(text.ReadProp(a.literal)) }

func (x *Desk) decodeProp(a args) string { return x.layProp(code.DecodeProp(a.bytes)) }

// layNet lays a network that was read; a question that was put to another one goes.
func (x *Desk) layNet(n api.Net, e api.Errno, at int) string {
	if e != api.OK {
		return refused(e, at)
	}
	x.net, x.prop = &n, nil
	return answer()
}

// layProp lays a question that was read, if it may be put to the network.
func (x *Desk) layProp(p api.Prop, e api.Errno, at int) string {
	if e == api.OK {
		e, at = model.CheckProp(p, x.width(0), x.width(x.last()))
	}
	if e != api.OK {
		return refused(e, at)
	}
	x.prop = &p
	return answer()
}

func (x *Desk) forget(args) string {
	x.net, x.prop = nil, nil
	return answer()
}

func (x *Desk) netBytes(args) string { return answer(digitsOf(x.netForm())) }

func (x *Desk) propBytes(args) string { return answer(digitsOf(x.propForm())) }

// netForm is the network as bytes. What lies on the desk may be, so that it has them.
func (x *Desk) netForm() []byte {
	b, _, _ := code.EncodeNet(*x.net)
	return b
}

// propForm is the question as bytes.
func (x *Desk) propForm() []byte {
	b, _, _ := code.EncodeProp(*x.prop)
	return b
}

// shapes are those of all outputs, the input's first.
func (x *Desk) shapes() []api.Shape {
	all, _, _ := model.Shapes(*x.net)
	return all
}

// last is the last output.
func (x *Desk) last() int { return len(x.net.Layers) }

// isOutput tells whether there is an output m.
func (x *Desk) isOutput(m int) bool { return m >= 0 && m <= x.last() }

// width is how many coordinates the output m has.
func (x *Desk) width(m int) int {
	n, _ := model.Size(x.shapes()[m])
	return n
}
