package trim

import (
	"testing"

	"ambit/oracle"
	"ambit/samples"
)

// 11.1: the chapter's example.
func TestExampleOrder(t *testing.T) {
	expectOrder(t, first(), 5, 7, 3, 9)
}

// 11.2: the chapter's examples.
func TestExampleReduce(t *testing.T) {
	expectReduce(t, first(), 4, first())
	expectReduce(t, first(), 9, first())
	expectReduce(t, first(), 2, of(numbers(0, 0), ids(3, 9), lists(numbers(1, 1), numbers(-1, 2)), numbers(2, 0.5)))
	expectReduce(t, first(), 1, of(numbers(0, 0), ids(9), lists(numbers(-1, 2)), numbers(3, 1.5)))
	none := of(numbers(0, 0), nil, nil, numbers(4, 3.5))
	expectReduce(t, first(), 0, none)
	expectReduce(t, first(), -5, none)
	expectReduce(t, around(1, ids(0, 1), numbers(oracle.Max), numbers(oracle.Max)), 0, samples.BadZono(1))
	expectReduce(t, samples.BadZono(2), 3, samples.BadZono(2))
}

// 11.3: the chapter's examples.
func TestExampleCap(t *testing.T) {
	for _, c := range [][3]int{{1, 5, 0}, {3, 5, 10}, {0, 5, 0}, {9, 5, 0}} {
		expectCap(t, c[0], c[1], c[2])
	}
}
