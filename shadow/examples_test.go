package shadow

import (
	"math"
	"testing"

	"ambit/api"
)

// 21.1: the chapter's examples.
func TestExamplesOfPolygon(t *testing.T) {
	expectPolygon(t, square(), 0, 1, 0, -1-1i, 1-1i, 1+1i, -1+1i)
	expectPolygon(t, of(0, 0, 1, 1i, -2-2i), 0, 1, 0, -3-3i, -1-3i, 3+1i, 3+3i, 1+3i, -3-1i)
	expectPolygon(t, square(), 0, 0, 0, -1-1i, 1+1i)
	expectPolygon(t, of(5+7i, 0), 0, 1, 0, 5+7i)
	expectPolygon(t, of(1, 0, 0x1p-60), 0, 1, 0x1p-60, 1, 1)
	expectNoPolygon(t, square(), 0, 2, api.ErrArg)
}

// 21.2: the chapter's examples.
func TestExamplesOfReach(t *testing.T) {
	expectReach(t, square(), 0, 1, 1+1i, 2)
	expectReach(t, square(), 0, 1, 0, 0)
	expectReach(t, square(), 0, 0, 1+1i, 2)
	expectNoReach(t, square(), 0, 1, complex(math.NaN(), 0), api.ErrNumber)
}

// 21.3: the chapter's examples.
func TestExamplesOfArea(t *testing.T) {
	for want, z := range map[float64]api.Zono{4: square(), 20: of(0, 0, 1, 1i, -2-2i)} {
		p, _, _ := Polygon(z, 0, 1)
		expectArea(t, p, want)
	}
}
