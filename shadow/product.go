package shadow

import "ambit/acc"

// The parts of a complex product are sums of two products of numbers: complex128's own would be rounded, so each goes into an exact sum.

// conj is a with the other sign of its imaginary part.
func conj(a complex128) complex128 { return complex(real(a), -imag(a)) }

// addReal adds the real part of a times b.
func addReal(sum *acc.Acc, a, b complex128) {
	sum.Prod(real(a), real(b), 0)
	sum.Prod(-imag(a), imag(b), 0)
}

// addHalfImag adds half the imaginary part of a times b.
func addHalfImag(sum *acc.Acc, a, b complex128) {
	sum.Prod(real(a), imag(b), -1)
	sum.Prod(imag(a), real(b), -1)
}

// product is a times b, exactly.
func product(a, b float64) *acc.Acc {
	x := acc.New()
	x.Prod(a, b, 0)
	return x
}
