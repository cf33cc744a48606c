package code

import (
	"ambit/api"
	"ambit/wire"
)

// A writer lays bytes one behind the other. What it is given was looked at ahead: wire refuses nothing of it.
type writer struct{ b []byte }

func (w *writer) put(b []byte, _ api.Errno) { w.b = append(w.b, b...) }

func (w *writer) head(magic string) {
	w.b = append(w.b, magic...)
	w.b = append(w.b, version)
}

func (w *writer) wholes(l ...int) {
	for _, n := range l {
		w.put(wire.Uint(n))
	}
}

func (w *writer) numbers(l ...float64) {
	for _, a := range l {
		w.put(wire.Float(a))
	}
}

func (w *writer) complexNumbers(l []complex128) {
	for _, z := range l {
		w.numbers(real(z), imag(z))
	}
}

// sealed is all that was written, and its sum behind it.
func (w *writer) sealed() []byte { return append(w.b, sumOf(w.b)...) }

// sumOf is the sum of bytes as a form has it at its end, the lowest byte first.
func sumOf(b []byte) []byte {
	s := wire.Sum(b)
	return []byte{byte(s), byte(s >> 8), byte(s >> 16), byte(s >> 24)}
}
