package text

import (
	"math"
	"testing"

	"ambit/api"
	"ambit/oracle"
)

// 9.1, 9.2
func TestExamplesOfNumbers(t *testing.T) {
	for _, c := range []struct {
		a    float64
		want string
	}{
		{1, "0x1p+0"}, {oracle.MinusZero(), "-0x0p+0"}, {0.1, "0x1.999999999999ap-4"}, {oracle.Least, "0x1p-1074"}, {math.NaN(), ""},
	} {
		if s := Hex(c.a); s != c.want {
			t.Errorf("Hex(%v): %q, not %q", c.a, s, c.want)
		}
	}
	for _, s := range []string{"0.1", "1e-1", "00.10"} {
		expectNumber(t, s, 0.1)
	}
	for _, s := range []string{"1e400", "1e99999", ".5", "+1", "0x1", "1E5"} {
		expectNoNumber(t, s)
	}
	expectNumber(t, "9007199254740993", 0x1p53)
	expectNumber(t, "0x10000000000000800000p-4", 0x1p72)
	expectNumber(t, "2e-324", 0)
	expectNumber(t, "3e-324", oracle.Least)
	expectNumber(t, "-2e-324", oracle.MinusZero())
	expectNumber(t, "-0", oracle.MinusZero())
	expectNumber(t, "-1e-400", oracle.MinusZero())
}

// 9.3
func TestExamplesOfWholes(t *testing.T) {
	if n, ok := Whole("-7"); n != -7 || !ok {
		t.Errorf("Whole(-7): %d %v", n, ok)
	}
	for _, s := range []string{"-0", "07", "9223372036854775808"} {
		if n, ok := Whole(s); n != 0 || ok {
			t.Errorf("Whole(%s): %d %v", s, n, ok)
		}
	}
}

// 9.4, 9.5
func TestExamplesOfNetworks(t *testing.T) {
	expectNetText(t,
		api.Net{In: api.Shape{C: 1, H: 1, W: 2}, Layers: []api.Layer{{Kind: api.KDense, Out: 1, W: []float64{1, -0.5}, B: []float64{0}}}},
		"net 1 1 2\ndense 1\nw 0x1p+0 -0x1p-1\nb 0x0p+0\nend\n")
	expectNet(t, "net 1 1 1 # a point\n\nrelu\nend", api.Net{In: api.Shape{C: 1, H: 1, W: 1}, Layers: []api.Layer{{Kind: api.KRelu}}})
	expectNoNet(t, "", api.ErrEnd, 1)
	expectNoNet(t, "net 1 1", api.ErrWord, 1)
	expectNoNet(t, "net 1 1 1\nw 1", api.ErrLine, 2)
	expectNoNet(t, "net 1 1 1\ndense 1\nw 1 2\nb 0\nend", api.ErrCount, 2)
}

// 9.6
func TestExamplesOfQuestions(t *testing.T) {
	expectProp(t, "prop\nc 0.5\ntarget 0\nk 1\ndepth 0\nlooks 1\nend", api.Prop{C: []float64{0.5}, K: 1, Looks: 1})
}
