package rows

import "ambit/api"

// A place is where a coordinate lies: its channel, its row and its column.
type place [3]int

// placeOf is where the i-th coordinate of a shape lies.
func placeOf(i int, s api.Shape) place {
	return place{i / (s.H * s.W), i / s.W % s.H, i % s.W}
}

// index is how many coordinates of a shape stand ahead of the one that lies there.
func (p place) index(s api.Shape) int { return (p[0]*s.H+p[1])*s.W + p[2] }

// from is how far a place lies behind another: in channels, in rows and in columns.
func (p place) from(q place) place {
	return place{p[0] - q[0], p[1] - q[1], p[2] - q[2]}
}

func goesByWindows(kind int) bool {
	return kind == api.KConv || kind == api.KMean || kind == api.KMax
}

// window is the first place of a layer's window for the coordinate that it tells at a place, and the one behind its last; both may lie outside the input.
func window(l api.Layer, in api.Shape, told place) (first, behind place) {
	first = place{told[0], told[1]*l.SH - l.PH, told[2]*l.SW - l.PW}
	channels := 1
	if l.Kind == api.KConv {
		// told[0] is a filter's number here, no channel of the input: a filter goes over all of them.
		first[0], channels = 0, in.C
	}
	return first, place{first[0] + channels, first[1] + l.KH, first[2] + l.KW}
}

// within are the places of a window that lie within the input, in the order of their coordinates.
func within(l api.Layer, in api.Shape, told place) []place {
	first, behind := window(l, in, told)
	var all []place
	for c := first[0]; c < behind[0]; c++ {
		for y := max(first[1], 0); y < min(behind[1], in.H); y++ {
			for x := max(first[2], 0); x < min(behind[2], in.W); x++ {
				all = append(all, place{c, y, x})
			}
		}
	}
	return all
}
