package text

import (
	"strconv"
	"strings"

	"ambit/api"
)

// A printer lays words in lines.
type printer struct {
	b     strings.Builder
	begun bool // the line in hand has a word
}

// put gives up as soon as there is too much: whoever asks for more than a text may be shall not wait for all of it.
func (p *printer) put(s string) {
	refuseIf(p.b.Len()+len(s) > api.MaxText, api.ErrLong, 0)
	p.b.WriteString(s)
}

func (p *printer) word(s string) {
	if p.begun {
		p.put(" ")
	}
	p.put(s)
	p.begun = true
}

func (p *printer) endLine() {
	p.put("\n")
	p.begun = false
}

func (p *printer) wholes(l ...int) {
	for _, n := range l {
		p.word(strconv.Itoa(n))
	}
}

func (p *printer) numbers(l ...float64) {
	for _, a := range l {
		p.word(Hex(a))
	}
}

// whole lays a line that has one whole number.
func (p *printer) whole(head string, n int) {
	p.word(head)
	p.wholes(n)
	p.endLine()
}

func (p *printer) list(head string, l []float64) {
	p.word(head)
	p.numbers(l...)
	p.endLine()
}

func (p *printer) complexList(head string, l []complex128) {
	p.word(head)
	for _, z := range l {
		p.numbers(real(z), imag(z))
	}
	p.endLine()
}

// last lays the line behind which there is none.
func (p *printer) last() {
	p.word("end")
	p.endLine()
}

// text is all that was laid.
func (p *printer) text() string { return p.b.String() }
