package text

import "ambit/api"

func (p *printer) prop(q api.Prop) {
	p.word("prop")
	p.endLine()
	p.list("c", q.C)
	for _, g := range q.G {
		p.list("g", g)
	}
	p.whole("target", q.Target)
	for _, c := range q.Claims {
		p.list("claim", c)
	}
	p.whole("k", q.K)
	p.whole("depth", q.Depth)
	p.whole("looks", q.Looks)
	p.last()
}

// A propReader reads a question.
type propReader struct{ reader }

func (r *propReader) prop() api.Prop {
	var p api.Prop
	r.take("prop")
	r.close()
	p.C = r.list("c")
	p.G = r.lists("g")
	p.Target = r.only("target")
	p.Claims = r.lists("claim")
	p.K, p.Depth, p.Looks = r.only("k"), r.only("depth"), r.only("looks")
	r.last()
	return p
}

// lists takes all lines with that head, up to one with another.
func (r *propReader) lists(head string) [][]float64 {
	var all [][]float64
	for r.ahead() == head {
		all = append(all, r.list(head))
	}
	return all
}

// only takes a line that has one whole number.
func (r *propReader) only(head string) int {
	r.take(head)
	n := r.whole()
	r.close()
	return n
}
