package verify

import (
	"testing"

	"ambit/api"
	"ambit/cases"
)

// 19.3, 19.4: the examples 1 and 2.
func TestExamplesOfVerdicts(t *testing.T) {
	n, p := cases.Example(false)
	expectVerdict(t, n, p, robust(0.5, 1))
	n, p = cases.Example(true)
	expectVerdict(t, n, p, falsifiedAt(1, 0.25, 1, -1))
}

// 19.4: the example 3.
func TestExampleOfNoBytes(t *testing.T) {
	n, p := cases.Example(false)
	_, prop := encoded(t, n, p)
	expectBytes(t, nil, prop, api.Verdict{Kind: api.Malformed, Err: api.ErrMagic, Whose: 1})
}

// 19.5: the example 4.
func TestExampleOfAStop(t *testing.T) {
	n, p := cases.Example(false)
	net, prop := encoded(t, n, p)
	expectNoSide(t, closed(), 1, net, prop, api.ErrStopped)
}

// 19.6: the example 5, with what it says of each part.
func TestExampleOfARadius(t *testing.T) {
	n, p := cases.Example(true)
	expectRadius(t, n, p, 2, 2, robust(0.25, 1))
	for part, want := range map[float64]api.Verdict{1: falsifiedAt(1, 0.25, 1, -1), 0.75: unknown(1, -1, 1), 0.5: robust(0.25, 1)} {
		p.G = lists(numbers(part, 0))
		expectVerdict(t, n, p, want)
	}
}
