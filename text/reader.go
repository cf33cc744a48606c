package text

import "ambit/api"

// A refusal is what a reader or a printer gives up with: the error, and the line of the text that is read.
type refusal struct {
	e    api.Errno
	line int
}

// refuse gives up, wherever it is called: outcome recovers that.
func refuse(e api.Errno, line int) { panic(refusal{e, line}) }

func refuseIf(wrong bool, e api.Errno, line int) {
	if wrong {
		refuse(e, line)
	}
}

// outcome is what work tells, or nothing and the refusal with which it gave up.
func outcome[T any](work func() T) (told T, why refusal) {
	defer func() {
		if thrown := recover(); thrown != nil {
			why = refusalOf(thrown)
		}
	}()
	return work(), refusal{}
}

// refusalOf is the refusal that was thrown. Whatever else was thrown is a fault of the program, and must not pass for an answer.
func refusalOf(thrown any) refusal {
	why, ok := thrown.(refusal)
	if !ok {
		panic(thrown)
	}
	return why
}

// A reader goes through the lines of a text that have words, and through the words of each.
type reader struct {
	lines  []line   // those that are left
	behind int      // the number behind the last line's
	at     int      // the number of the line in hand
	words  []string // those of it that are left
}

func newReader(s string) reader {
	refuseIf(len(s) > api.MaxText, api.ErrLong, 0)
	lines, behind := linesOf(s)
	return reader{lines: lines, behind: behind}
}

// ahead is the first word of the next line; the empty text, if there is none.
func (r *reader) ahead() string {
	if len(r.lines) == 0 {
		return ""
	}
	return r.lines[0].words[0]
}

// take takes the next line in hand, which must begin with that word.
func (r *reader) take(head string) {
	refuseIf(len(r.lines) == 0, api.ErrEnd, r.behind)
	l := r.lines[0]
	refuseIf(l.words[0] != head, api.ErrLine, l.at)
	r.lines, r.at, r.words = r.lines[1:], l.at, l.words[1:]
}

// last takes the line behind which there is none.
func (r *reader) last() {
	r.take("end")
	r.close()
	if len(r.lines) > 0 {
		refuse(api.ErrLine, r.lines[0].at)
	}
}

// close is for the end of a line: no word may be left of it.
func (r *reader) close() { refuseIf(len(r.words) > 0, api.ErrWord, r.at) }

func (r *reader) word() string {
	refuseIf(len(r.words) == 0, api.ErrWord, r.at)
	w := r.words[0]
	r.words = r.words[1:]
	return w
}

func (r *reader) whole() int {
	n, ok := Whole(r.word())
	refuseIf(!ok, api.ErrWord, r.at)
	return n
}

func (r *reader) number() float64 {
	a, ok := Number(r.word())
	refuseIf(!ok, api.ErrWord, r.at)
	return a
}

func (r *reader) complexNumber() complex128 {
	re := r.number()
	im := r.number()
	return complex(re, im)
}

// rest reads all that is left of the line in hand.
func rest[T any](r *reader, read func() T) []T {
	var all []T
	for len(r.words) > 0 {
		all = append(all, read())
	}
	return all
}

// list takes a line that is a list of numbers.
func (r *reader) list(head string) []float64 {
	r.take(head)
	return rest(r, r.number)
}

// complexList takes a line that is a list of complex numbers.
func (r *reader) complexList(head string) []complex128 {
	r.take(head)
	return rest(r, r.complexNumber)
}
