package verify

import (
	"math"
	"testing"

	"ambit/api"
	"ambit/cases"
	"ambit/samples"
)

// badCrews are numbers of workers that may not be.
func badCrews() []int {
	return []int{0, -1, -16, 17, 18, 256, 1 << 32, 1<<32 + 1, -1 << 32, math.MaxInt, math.MinInt}
}

// badBits are numbers of bits of a radius that may not be.
func badBits() []int {
	return []int{-1, -20, 21, 22, 63, 64, 65, 1 << 32, -1 << 32, 1<<32 + 3, math.MaxInt, math.MinInt}
}

// expectRefused holds Judge and Radius to an error.
func expectRefused(t *testing.T, n api.Net, p api.Prop, bits, workers int, want api.Errno) {
	t.Helper()
	expectNoJudge(t, n, p, workers, want)
	expectNoRadius(t, n, p, bits, workers, want)
}

// 19.3, 19.6: a network that model refuses, whatever is asked of it, and by whatever workers.
func TestRefusedNetworks(t *testing.T) {
	for _, r := range samples.RefusedNets() {
		for _, p := range []api.Prop{{}, samples.Question(), {C: numbers(1), Target: -9}, cases.Asked(lists(numbers(1, 1)), numbers(1), numbers(1))} {
			for _, workers := range []int{0, 1, 16, 17} {
				expectRefused(t, r.Net, p, 3, workers, r.Err)
				expectRefused(t, r.Net, p, 21, workers, r.Err)
			}
		}
	}
}

// wide is a network of 3 input and 4 output coordinates.
func wide() api.Net { return samples.Network(samples.Line(3), samples.Relu(), samples.Dense(4)) }

// 19.3, 19.6: a question that model refuses to put to the network, by whatever workers.
func TestRefusedQuestions(t *testing.T) {
	if _, e := Judge(wide(), samples.Question(), 4); e != api.OK {
		t.Fatal(e)
	}
	for _, r := range samples.RefusedProps() {
		for _, workers := range []int{0, 1, 16, 17} {
			expectRefused(t, wide(), r.Prop, 3, workers, r.Err)
			expectRefused(t, wide(), r.Prop, -1, workers, r.Err)
		}
	}
}

// 19.3: a question is put to the input's and the last output's coordinates, not to those of a layer between.
func TestQuestionsToOtherWidths(t *testing.T) {
	n, p := wide(), samples.Question()
	n.Layers = n.Layers[:1]
	expectRefused(t, n, p, 0, 1, api.ErrCount)
	p.Claims, p.Target = nil, 3
	expectRefused(t, n, p, 0, 1, api.ErrTarget)
	p.Target = 2
	if _, e := Judge(n, p, 1); e != api.OK {
		t.Error(e)
	}
	n = samples.Network(samples.Line(3), samples.Dense(1))
	p.Target = 0
	expectRefused(t, n, p, 0, 1, api.ErrTarget)
	p.Claims = lists(numbers(1, 0))
	if _, e := Judge(n, p, 1); e != api.OK {
		t.Error(e)
	}
	n.In, n.Layers[0].W = samples.Line(2), numbers(1, 2)
	expectRefused(t, n, p, 0, 1, api.ErrCount)
}

// 19.3, 19.5, 19.6: 1 to MaxWorkers, and no others.
func TestCrewsOutOfBounds(t *testing.T) {
	for _, further := range []bool{false, true} {
		n, p := cases.Example(further)
		net, prop := encoded(t, n, p)
		for _, workers := range badCrews() {
			expectRefused(t, n, p, 3, workers, api.ErrArg)
			for _, done := range []<-chan struct{}{nil, api.NewStop().Done(), closed()} {
				expectNoSide(t, done, workers, net, prop, api.ErrArg)
				expectNoSide(t, done, workers, nil, prop, api.ErrArg)
				expectNoSide(t, done, workers, net, nil, api.ErrArg)
			}
		}
		want := Verify(net, prop)
		for workers := 1; workers <= 16; workers++ {
			expectJudge(t, n, p, workers, want)
			expectSide(t, nil, workers, net, prop, want)
			if _, _, e := Radius(n, p, 1, workers); e != api.OK {
				t.Errorf("%d: %v", workers, e)
			}
		}
	}
}

// 19.6: 0 to MaxRadius bits, and no others.
func TestBitsOutOfBounds(t *testing.T) {
	for _, further := range []bool{false, true} {
		n, p := cases.Example(further)
		for _, bits := range badBits() {
			for _, workers := range []int{1, 16, 0, 17} {
				expectNoRadius(t, n, p, bits, workers, api.ErrArg)
			}
		}
		for bits := range api.MaxRadius + 1 {
			if _, _, e := Radius(n, p, bits, 2); e != api.OK {
				t.Errorf("%d: %v", bits, e)
			}
		}
	}
}

// Rule 5: where all of it is wrong, each error comes as the ones ahead of it are mended.
func TestOrderOfErrors(t *testing.T) {
	n, p := wide(), samples.Question()
	n.Layers[1].B[3] = math.NaN()
	p.K, p.G[2] = 9, nil
	expectRefused(t, n, p, 21, 17, api.ErrNumber)
	n.Layers[1].B[3] = 0
	expectRefused(t, n, p, 21, 17, api.ErrCount)
	p.G[2] = samples.Ones(3)
	expectRefused(t, n, p, 21, 17, api.ErrBudget)
	p.K = 8
	expectRefused(t, n, p, 20, 17, api.ErrArg)
	expectNoRadius(t, n, p, 21, 16, api.ErrArg)
	if _, e := Judge(n, p, 16); e != api.OK {
		t.Error(e)
	}
}
