package acc

import (
	"math"
	"math/bits"

	"ambit/api"
)

const (
	// The last bit of the least number stands for 2^leastPower.
	leastPower = -1074

	// So many bits has a number.
	numberBits = 53
)

// told is the number by d of (whole + part) * 2^power, turned if neg is true: part is something between 0 and 1, if more is true, else 0. The whole is 0, and there is no part, or it has more bits than a number.
func told(d api.Dir, neg bool, whole uint64, power int, more bool) (float64, bool) {
	drop := max(bits.Len64(whole)-numberBits, leastPower-power, 1)
	kept, half := whole>>drop, whole>>(drop-1)&1 == 1
	more = more || whole&(1<<(drop-1)-1) != 0
	if neg {
		d = opposite(d)
	}
	switch d {
	case api.Near:
		if half && (more || kept&1 == 1) {
			kept++
		}
	case api.Up:
		if half || more {
			kept++
		}
	case api.Down:
	default:
		return 0, false
	}
	a := math.Ldexp(float64(kept), power+drop)
	if a > math.MaxFloat64 {
		if d != api.Down {
			return 0, false
		}
		a = math.MaxFloat64
	}
	if neg {
		a = 0 - a // a nought has no sign so
	}
	return a, true
}

// opposite is the direction in which the turned number is looked for.
func opposite(d api.Dir) api.Dir {
	switch d {
	case api.Up:
		return api.Down
	case api.Down:
		return api.Up
	}
	return d
}
