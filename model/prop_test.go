package model

import (
	"math"
	"testing"

	"ambit/api"
	"ambit/oracle"
)

// columns are k lists of n numbers.
func columns(k, n int) [][]float64 {
	l := make([][]float64, k)
	for i := range l {
		l[i] = ones(n)
	}
	return l
}

// ordinary is a question that may be put to a network of 3 input and 4 output coordinates.
func ordinary() api.Prop {
	return api.Prop{C: ones(3), G: columns(5, 3), Target: 2, Claims: columns(6, 5), K: 2, Depth: 3, Looks: 4}
}

// 6.8
func TestOrdinaryQuestion(t *testing.T) {
	expectProp(t, ordinary(), 3, 4, api.OK, 0)
	p := ordinary()
	p.G = nil
	expectProp(t, p, 3, 4, api.OK, 0)
	p.G = [][]float64{}
	expectProp(t, p, 3, 4, api.OK, 0)
	p.Claims = [][]float64{}
	expectProp(t, p, 3, 4, api.OK, 0)
}

// 6.8: in and out go ahead of the question.
func TestWidthsOfQuestions(t *testing.T) {
	wrong := api.Prop{Target: -9}
	for _, n := range append(hugeNumbers(), 0, -1, -256, 257, 258) {
		expectProp(t, wrong, n, 4, api.ErrArg, 0)
		expectProp(t, wrong, 3, n, api.ErrArg, 0)
		expectProp(t, wrong, n, n, api.ErrArg, 0)
		expectProp(t, ordinary(), n, 4, api.ErrArg, 0)
		expectProp(t, ordinary(), 3, n, api.ErrArg, 0)
	}
	for _, in := range []int{1, 2, 255, 256} {
		for _, out := range []int{2, 3, 255, 256} {
			p := api.Prop{C: ones(in), G: columns(2, in), Target: out - 1, Claims: columns(2, out+1), K: 1, Looks: 1}
			expectProp(t, p, in, out, api.OK, 0)
		}
	}
}

// 6.8: C, as long as the input.
func TestCentreOfQuestions(t *testing.T) {
	for n := range 10 {
		p := ordinary()
		p.C = ones(n)
		p.Target = 99
		if n != 3 {
			expectProp(t, p, 3, 4, api.ErrCount, 0)
		}
	}
	for i := range 3 {
		for _, none := range oracle.NoNumbers() {
			p := ordinary()
			p.C[i] = none
			p.G = columns(257, 2)
			expectProp(t, p, 3, 4, api.ErrNumber, 0)
			p.C = append(p.C, none)
			expectProp(t, p, 3, 4, api.ErrCount, 0)
		}
	}
}

// 6.8: up to 256 columns, each as long as the input.
func TestColumnsOfQuestions(t *testing.T) {
	for _, k := range []int{0, 1, 2, 255, 256, 257, 258, 1000} {
		p := ordinary()
		p.G = columns(k, 3)
		if k <= 256 {
			expectProp(t, p, 3, 4, api.OK, 0)
			continue
		}
		expectProp(t, p, 3, 4, api.ErrSize, 0)
		p.G[0] = nil
		expectProp(t, p, 3, 4, api.ErrSize, 0)
	}
	for _, count := range []int{1, 2, 5, 256} {
		for k := range count {
			for _, column := range [][]float64{nil, {}, ones(1), ones(2), ones(4), ones(256), {math.NaN(), 1}} {
				p := ordinary()
				p.G = columns(count, 3)
				p.G[k] = column
				p.Target, p.K = 4, 0
				expectProp(t, p, 3, 4, api.ErrCount, 1+k)
				p.G[count-1] = nil
				expectProp(t, p, 3, 4, api.ErrCount, 1+k)
			}
			for i := range 3 {
				for _, none := range oracle.NoNumbers() {
					p := ordinary()
					p.G = columns(count, 3)
					p.G[k][i] = none
					p.Target, p.K = 4, 0
					expectProp(t, p, 3, 4, api.ErrNumber, 1+k)
					p.G[k] = p.G[k][:2]
					expectProp(t, p, 3, 4, api.ErrCount, 1+k)
				}
			}
		}
	}
	// Column by column: a number that is none in an earlier one goes ahead of a length in a later one.
	p := ordinary()
	p.G[1][2], p.G[2] = math.Inf(1), nil
	expectProp(t, p, 3, 4, api.ErrNumber, 2)
}

// 6.8: a target from -1 to the last class.
func TestTargets(t *testing.T) {
	for _, target := range append(hugeNumbers(), -3, -2, -1, 0, 1, 2, 3, 4, 5, 256) {
		p := ordinary()
		p.Target = target
		if target >= -1 && target < 4 {
			expectProp(t, p, 3, 4, api.OK, 0)
			continue
		}
		expectProp(t, p, 3, 4, api.ErrTarget, 0)
		p.Claims = columns(65, 2)
		expectProp(t, p, 3, 4, api.ErrTarget, 0)
		p.G[4] = nil
		expectProp(t, p, 3, 4, api.ErrCount, 5)
	}
}

// 6.8: up to 64 claims, each one longer than the output.
func TestClaims(t *testing.T) {
	for _, n := range []int{1, 2, 63, 64, 65, 66, 1000} {
		p := ordinary()
		p.Claims = columns(n, 5)
		if n <= 64 {
			expectProp(t, p, 3, 4, api.OK, 0)
			continue
		}
		expectProp(t, p, 3, 4, api.ErrSize, 0)
		p.Claims[0] = nil
		expectProp(t, p, 3, 4, api.ErrSize, 0)
	}
	for _, k := range []int{0, 1, 5, 256} {
		for i := range 64 {
			for _, claim := range [][]float64{nil, {}, ones(3), ones(4), ones(6), {1, 2, 3, math.NaN()}} {
				p := ordinary()
				p.G, p.Claims, p.K = columns(k, 3), columns(64, 5), 9
				p.Claims[i] = claim
				expectProp(t, p, 3, 4, api.ErrCount, 1+i+k)
			}
			for j := range 5 {
				p := ordinary()
				p.G, p.Claims, p.K = columns(k, 3), columns(64, 5), 9
				p.Claims[i][j] = oracle.NoNumbers()[(i+j)%6]
				expectProp(t, p, 3, 4, api.ErrNumber, 1+i+k)
				p.Claims[i] = p.Claims[i][:4]
				expectProp(t, p, 3, 4, api.ErrCount, 1+i+k)
			}
		}
	}
	p := ordinary()
	p.Claims[1][2], p.Claims[2] = math.Inf(1), nil
	expectProp(t, p, 3, 4, api.ErrNumber, 7)
}

// 6.8: something must be claimed: by a claim, or by a target that has another class beside it.
func TestNothingToBeClaimed(t *testing.T) {
	for _, out := range []int{1, 2, 3, 256} {
		for _, target := range []int{-1, 0, out - 1} {
			for _, claims := range []int{0, 1, 64} {
				p := api.Prop{C: ones(2), Target: target, Claims: columns(claims, out+1), K: 1, Looks: 1}
				if claims > 0 || target >= 0 && out > 1 {
					expectProp(t, p, 2, out, api.OK, 0)
					p.K = 0
					expectProp(t, p, 2, out, api.ErrBudget, 0)
				} else {
					expectProp(t, p, 2, out, api.ErrTarget, 0)
					p.K = 0
					expectProp(t, p, 2, out, api.ErrTarget, 0)
				}
			}
		}
	}
}

// 6.8: each budget at its limits, and one past them.
func TestBudgets(t *testing.T) {
	whole := append(hugeNumbers(), -2, -1, 0, 1, 2, 7, 8, 9, 1023, 1024, 1025)
	for _, n := range whole {
		p := ordinary()
		p.K = n
		expectProp(t, p, 3, 4, within(n, 1, 8), 0)
		p = ordinary()
		p.Depth = n
		expectProp(t, p, 3, 4, within(n, 0, 8), 0)
		p = ordinary()
		p.Looks = n
		expectProp(t, p, 3, 4, within(n, 1, 1024), 0)
	}
}

func within(n, least, most int) api.Errno {
	if n < least || n > most {
		return api.ErrBudget
	}
	return api.OK
}

// 6.8: every number may stand in a question.
func TestNumbersOfQuestions(t *testing.T) {
	for _, a := range append(oracle.Edges(), oracle.MinusZero()) {
		p := ordinary()
		p.C[1], p.G[2][0], p.Claims[3][4] = a, a, a
		expectProp(t, p, 3, 4, api.OK, 0)
	}
}
