package code

import "ambit/api"

func (w *writer) prop(p api.Prop) {
	w.head(propMagic)
	w.list(p.C)
	w.wholes(len(p.G))
	for _, g := range p.G {
		w.numbers(g...)
	}
	w.wholes(p.Target+1, len(p.Claims))
	for _, c := range p.Claims {
		w.list(c)
	}
	w.wholes(p.K, p.Depth, p.Looks)
}

// list writes how long a list is, and its numbers.
func (w *writer) list(l []float64) {
	w.wholes(len(l))
	w.numbers(l...)
}

// A propReader reads a question.
type propReader struct {
	cursor
	width int // how many numbers the centre and each column have
	claim int // how many each claim has; 0 ahead of the first
}

func (r *propReader) prop() api.Prop {
	r.head(propMagic)
	var p api.Prop
	r.width = r.count(1, api.MaxWidth)
	p.C = r.column()
	p.G = list(r.count(0, api.MaxSymbols), r.column)
	at := r.at
	p.Target = r.whole() - 1
	p.Claims = list(r.count(0, api.MaxClaims), r.nextClaim)
	p.K, p.Depth, p.Looks = r.whole(), r.whole(), r.whole()
	e, _ := CheckForm(p)
	refuseIf(e != api.OK, e, at)
	r.end()
	return p
}

func (r *propReader) column() []float64 { return list(r.width, r.number) }

// nextClaim reads a claim: each is as long as the first.
func (r *propReader) nextClaim() []float64 {
	at := r.at
	n := r.whole()
	refuseIf(n < 2 || n > api.MaxWidth+1, api.ErrCount, at)
	refuseIf(r.claim != 0 && n != r.claim, api.ErrCount, at)
	r.claim = n
	return list(n, r.number)
}
