package desk

import (
	"ambit/api"
	"ambit/audit"
	"ambit/flow"
	"ambit/margin"
	"ambit/point"
	"ambit/shadow"
	"ambit/split"
	"ambit/text"
	"ambit/verify"
	"ambit/walk"
	"ambit/zono"
)

// one is how many workers a line takes that names none.
const one = 1

func (x *Desk) shape(a args) string {
	m := a.wholes[0]
	if !x.isOutput(m) {
		return refused(api.ErrArg)
	}
	s := x.shapes()[m]
	return answer(decimals(s.C, s.H, s.W)...)
}

func (x *Desk) verify(a args) string {
	v, e := verify.Judge(*x.net, *x.prop, a.wholes[0])
	if e != api.OK {
		return refused(e)
	}
	return answer(verdict(v)...)
}

func (x *Desk) radius(a args) string {
	i, v, e := verify.Radius(*x.net, *x.prop, a.wholes[0], one)
	if e != api.OK {
		return refused(e)
	}
	return answer(append(decimals(i), verdict(v)...)...)
}

// cube is the whole cube. A question that lies on the desk has no more symbols than may be.
func (x *Desk) cube() api.Region {
	r, _ := split.Whole(len(x.prop.G))
	return r
}

// zonoOf is the zonotope of the output m behind the whole cube; ErrArg, if there is no such output.
func (x *Desk) zonoOf(m int) (api.Zono, api.Errno) {
	if !x.isOutput(m) {
		return api.Zono{}, api.ErrArg
	}
	trace, e := flow.Push(*x.net, *x.prop, x.cube(), one)
	if e != api.OK {
		return api.Zono{}, e
	}
	return trace.Z[m], api.OK
}

func (x *Desk) bounds(a args) string {
	z, e := x.zonoOf(a.wholes[0])
	if e != api.OK {
		return refused(e)
	}
	if z.Bad {
		return bad()
	}
	return spans(zono.Bounds(z))
}

func (x *Desk) columns(a args) string {
	z, e := x.zonoOf(a.wholes[0])
	if e != api.OK {
		return refused(e)
	}
	if z.Bad {
		return bad()
	}
	return answer(decimals(z.Ids...)...)
}

func (x *Desk) margin(args) string {
	claims, e := margin.Claims(*x.prop, x.width(x.last()))
	if e != api.OK {
		return refused(e)
	}
	z, e := x.zonoOf(x.last())
	if e != api.OK {
		return refused(e)
	}
	if _, _, told := margin.Worst(z, claims); !told {
		return bad()
	}
	var all []string
	for _, c := range claims {
		// Worst told one, so that each claim has a margin.
		least, _ := margin.Margin(z, c)
		all = append(all, text.Hex(least))
	}
	return answer(all...)
}

func (x *Desk) trial(a args) string {
	claim, gap, tells := margin.Trial(*x.net, *x.prop, x.cube(), a.wholes)
	if !tells {
		return answer("none")
	}
	return answer(append(decimals(claim), text.Hex(gap))...)
}

func (x *Desk) walk(a args) string {
	// A bad span on the way may lead to nothing that is told: the outputs' own are looked at.
	told, e, _ := walk.Eval(*x.net, walk.Points(a.numbers))
	if e != api.OK {
		return refused(e)
	}
	return spans(told)
}

func (x *Desk) exact(a args) string {
	var at []api.Dyad
	for _, v := range a.numbers {
		// A number always has an exact one.
		d, _ := point.Of(v)
		at = append(at, d)
	}
	told, e, _ := point.Eval(*x.net, at)
	if e != api.OK {
		return refused(e)
	}
	var all []string
	for _, y := range told {
		all = append(all, rounded(api.Down, y), rounded(api.Up, y))
	}
	return answer(all...)
}

func (x *Desk) shadow(a args) string {
	z, e := x.zonoOf(a.wholes[0])
	if e != api.OK {
		return refused(e)
	}
	corners, far, e := shadow.Polygon(z, a.wholes[1], a.wholes[2])
	if e != api.OK {
		return refused(e)
	}
	all := []string{text.Hex(far)}
	for _, c := range corners {
		all = append(all, text.Hex(real(c)), text.Hex(imag(c)))
	}
	return answer(all...)
}

func (x *Desk) account(args) string {
	b, e := audit.Account(x.netForm(), x.propForm())
	if e != api.OK {
		return refused(e)
	}
	return answer(digitsOf(b))
}

func (x *Desk) check(a args) string {
	least, e := audit.Check(x.netForm(), x.propForm(), a.bytes)
	if e != api.OK {
		return refused(e)
	}
	return answer(text.Hex(least))
}
