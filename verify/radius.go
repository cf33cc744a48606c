package verify

import "ambit/api"

// greatest is how many parts of 2 to the bits were found to be robust, next to one more that was not, with the verdict on them; -1 and the verdict on none, if not even that is robust.
func greatest(bits int, verdict func(part float64) api.Verdict) (int, api.Verdict) {
	low, high := 0, 1<<bits
	whole := float64(high)
	at := func(i int) api.Verdict { return verdict(float64(i) / whole) }
	if v := at(high); v.Kind == api.Robust {
		return high, v
	}
	proven := at(low)
	if proven.Kind != api.Robust {
		return -1, proven
	}
	for high > low+1 {
		half := (low + high) / 2
		if v := at(half); v.Kind == api.Robust {
			low, proven = half, v
		} else {
			high = half
		}
	}
	return low, proven
}

// shrunk is a question with a part of its columns, from 0 to 1.
func shrunk(p api.Prop, part float64) api.Prop {
	columns := make([][]float64, len(p.G))
	for s, g := range p.G {
		columns[s] = make([]float64, len(g))
		for i, a := range g {
			columns[s][i] = times(a, part)
		}
	}
	p.G = columns
	return p
}

// times is a number times a part from 0 to 1, to the nearest number: a part of at most MaxRadius bits is a number itself, so that the product is rounded once, and it is never too great.
func times(a, part float64) float64 {
	if v := a * part; v != 0 {
		return v
	}
	// What is reckoned is never -0.
	return 0
}
