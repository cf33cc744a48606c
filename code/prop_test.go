package code

import (
	"math"
	"slices"
	"testing"

	"ambit/api"
	"ambit/model"
	"ambit/oracle"
	"ambit/samples"
)

// 8.4, 8.5, 8.6
func TestBytesOfQuestions(t *testing.T) {
	for _, p := range samples.Props() {
		expectPropBytes(t, p, layProp(p).b)
	}
	p := samples.Question()
	p.G = [][]float64{}
	expectPropBytes(t, p, layProp(p).b)
	p.Claims = [][]float64{}
	expectPropBytes(t, p, layProp(p).b)
}

// 8.4: columns have no length of their own, claims have.
func TestOrderInQuestions(t *testing.T) {
	one, two := numberBytes(1), numberBytes(2)
	p := api.Prop{C: []float64{1, 2}, G: [][]float64{{2, 1}, {1, 1}, {2, 2}}, Target: 0, Claims: [][]float64{{1, 2}, {2, 1}}, K: 4, Depth: 5, Looks: 6}
	expectPropBytes(t, p, sealed(propBytes([]byte{2}, one, two, []byte{3}, two, one, one, one, two, two, []byte{1, 2, 2}, one, two, []byte{2}, two, one, []byte{4, 5, 6})...))
	p = api.Prop{C: []float64{1}, Target: 254, K: 1, Depth: 8, Looks: 1024}
	expectPropBytes(t, p, sealed(propBytes([]byte{1}, one, []byte{0}, []byte{0xff, 1}, []byte{0, 1, 8, 0x80, 8})...))
}

// 8.4, 8.5: numbers are carried, bit for bit.
func TestNumbersOfQuestionsAreCarried(t *testing.T) {
	for _, a := range oracle.Edges() {
		p := samples.Question()
		p.C[1], p.G[4][2], p.Claims[1][4] = a, -a, a
		expectPropBytes(t, p, layProp(p).b)
	}
}

// 8.3: C has 1 to 256 numbers; that goes ahead of all else.
func TestCentreOfForms(t *testing.T) {
	for _, n := range []int{0, 257, 258, 1000} {
		expectForm(t, api.Prop{C: samples.Ones(n), K: 1, Looks: 1}, api.ErrSize, 0)
		expectForm(t, api.Prop{C: samples.Ones(n), Target: 999, Claims: samples.Columns(1, 0), K: 99}, api.ErrSize, 0)
	}
	for _, n := range []int{1, 2, 255, 256} {
		expectForm(t, api.Prop{C: samples.Ones(n), K: 1, Looks: 1}, api.OK, 0)
	}
	for _, none := range oracle.NoNumbers() {
		expectForm(t, api.Prop{C: []float64{0, none}, G: samples.Columns(257, 1), K: 1, Looks: 1}, api.ErrNumber, 0)
	}
}

// 8.3: without claims the network has as many outputs as the target needs, and at least two.
func TestTargetOfForms(t *testing.T) {
	for _, x := range []struct {
		target int
		e      api.Errno
	}{
		{0, api.OK}, {1, api.OK}, {2, api.OK}, {254, api.OK}, {255, api.OK},
		{-1, api.ErrTarget}, {-2, api.ErrTarget}, {math.MinInt, api.ErrTarget}, {math.MinInt + 1, api.ErrTarget},
		{256, api.ErrArg}, {257, api.ErrArg}, {1 << 32, api.ErrArg}, {math.MaxInt - 1, api.ErrArg}, {math.MaxInt, api.ErrArg},
	} {
		expectForm(t, api.Prop{C: samples.Ones(3), Target: x.target, K: 1, Looks: 1}, x.e, 0)
		if x.e == api.ErrArg { // ahead of the numbers
			expectForm(t, api.Prop{C: []float64{math.NaN()}, Target: x.target}, api.ErrArg, 0)
		}
	}
}

// 8.3: with claims it has one less than the first of them is long.
func TestClaimsOfForms(t *testing.T) {
	for _, x := range []struct {
		length, target int
		e              api.Errno
	}{
		{0, -1, api.ErrArg}, {1, -1, api.ErrArg}, {258, -1, api.ErrArg}, {1000, 0, api.ErrArg},
		{2, -1, api.OK}, {2, 0, api.OK}, {2, 1, api.ErrTarget}, {2, -2, api.ErrTarget},
		{5, 3, api.OK}, {5, 4, api.ErrTarget}, {5, math.MaxInt, api.ErrTarget},
		{257, -1, api.OK}, {257, 255, api.OK}, {257, 256, api.ErrTarget},
	} {
		p := api.Prop{C: samples.Ones(3), Target: x.target, Claims: samples.Columns(2, x.length), K: 1, Looks: 1}
		expectForm(t, p, x.e, 0)
		if x.e == api.ErrArg { // ahead of the numbers
			p.C[0] = math.NaN()
			expectForm(t, p, api.ErrArg, 0)
		}
	}
	for i := range 2 {
		for _, length := range []int{0, 1, 4, 6, 258} {
			p := samples.Question()
			p.Claims[i+1] = samples.Ones(length)
			expectForm(t, p, api.ErrCount, 1+5+i+1)
		}
	}
	p := samples.Question()
	p.Claims[0] = samples.Ones(4)
	expectForm(t, p, api.ErrCount, 1+5+1) // it is the first by which the others are measured
	for i := range 3 {
		p := samples.Question()
		p.Claims[i][3] = math.Inf(1)
		p.K = 0
		expectForm(t, p, api.ErrNumber, 1+5+i)
	}
}

// 8.3: the rest, as model.CheckProp has it.
func TestRestOfForms(t *testing.T) {
	for _, x := range []struct {
		spoil func(p *api.Prop)
		e     api.Errno
		at    int
	}{
		{func(p *api.Prop) {}, api.OK, 0},
		{func(p *api.Prop) { p.G = samples.Columns(256, 3) }, api.OK, 0},
		{func(p *api.Prop) { p.G = samples.Columns(257, 3) }, api.ErrSize, 0},
		{func(p *api.Prop) { p.G[0] = samples.Ones(2) }, api.ErrCount, 1},
		{func(p *api.Prop) { p.G[4] = samples.Ones(4) }, api.ErrCount, 5},
		{func(p *api.Prop) { p.G[3][2] = math.NaN() }, api.ErrNumber, 4},
		{func(p *api.Prop) { p.Claims = samples.Columns(64, 5) }, api.OK, 0},
		{func(p *api.Prop) { p.Claims = samples.Columns(65, 5) }, api.ErrSize, 0},
		{func(p *api.Prop) { p.Claims, p.Target = nil, -1 }, api.ErrTarget, 0},
		{func(p *api.Prop) { p.K = 0 }, api.ErrBudget, 0},
		{func(p *api.Prop) { p.K = 9 }, api.ErrBudget, 0},
		{func(p *api.Prop) { p.Depth = -1 }, api.ErrBudget, 0},
		{func(p *api.Prop) { p.Depth = 9 }, api.ErrBudget, 0},
		{func(p *api.Prop) { p.Looks = 0 }, api.ErrBudget, 0},
		{func(p *api.Prop) { p.Looks = 1025 }, api.ErrBudget, 0},
		{func(p *api.Prop) { p.K, p.Depth, p.Looks = 8, 8, 1024 }, api.OK, 0},
		{func(p *api.Prop) { p.K, p.Depth, p.Looks = 1, 0, 1 }, api.OK, 0},
	} {
		p := samples.Question()
		x.spoil(&p)
		expectForm(t, p, x.e, x.at)
	}
}

// 8.3: a question may be written just if there is some network that it may be put to.
func TestFormsAreForSomeNetwork(t *testing.T) {
	var m oracle.Mixer
	seen := map[bool]int{}
	for range 3000 {
		p := samples.AnyProp(&m)
		e, _ := CheckForm(p)
		some := false
		for out := 1; out <= api.MaxWidth; out++ {
			f, _ := model.CheckProp(p, len(p.C), out)
			some = some || f == api.OK
		}
		if some != (e == api.OK) {
			t.Fatalf("CheckForm(%+v): %v", p, e)
		}
		seen[some]++
	}
	if seen[true] < 300 || seen[false] < 300 {
		t.Error(seen)
	}
}

// 8.5: longer than MaxFile, the first bytes, the version.
func TestHeadOfQuestions(t *testing.T) {
	expectNoProp(t, noughts(api.MaxFile), api.ErrMagic, 0)
	expectNoProp(t, noughts(api.MaxFile+1), api.ErrLong, api.MaxFile)
	good := layProp(samples.Question()).b
	expectNoProp(t, append(slices.Clone(good), noughts(api.MaxFile-len(good))...), api.ErrRest, len(good))
	expectNoProp(t, append(slices.Clone(good), noughts(api.MaxFile+1-len(good))...), api.ErrLong, api.MaxFile)
	for _, s := range []string{"", "A", "AM", "AMB", "AMBN\x01", "ambp\x01", " AMBP\x01", "AMBp\x01", "BMBP\x01"} {
		expectNoProp(t, []byte(s), api.ErrMagic, 0)
	}
	for v := range 256 {
		if v != 1 {
			expectNoProp(t, []byte{'A', 'M', 'B', 'P', byte(v), 0}, api.ErrVersion, 4)
		}
	}
	expectNoProp(t, []byte("AMBP"), api.ErrVersion, 4)
	expectNoProp(t, []byte("AMBP\x01"), api.ErrShort, 5)
}

// 8.5: the centre and the columns.
func TestListsOfQuestions(t *testing.T) {
	one, no := numberBytes(1), numberBytes(math.NaN())
	for _, x := range []refused{
		{propBytes([]byte{0x80, 0}), api.ErrForm, 5},
		{propBytes([]byte{0x80}), api.ErrShort, 5},
		{propBytes(wide()), api.ErrWide, 5},
		{propBytes([]byte{0}), api.ErrSize, 5},
		{propBytes(wholeBytes(257)), api.ErrSize, 5},
		{propBytes(greatest()), api.ErrSize, 5},
		{propBytes(wholeBytes(256)), api.ErrShort, 7},
		{propBytes([]byte{2}, one), api.ErrShort, 14},
		{propBytes([]byte{2}, one, one[:7]), api.ErrShort, 14},
		{propBytes([]byte{2}, one, no), api.ErrFloat, 14},
		{propBytes([]byte{2}, no[:7]), api.ErrShort, 6},
		{propBytes([]byte{1}, one), api.ErrShort, 14},
		{propBytes([]byte{1}, one, []byte{0x80, 0}), api.ErrForm, 14},
		{propBytes([]byte{1}, one, wholeBytes(257)), api.ErrSize, 14},
		{propBytes([]byte{1}, one, greatest()), api.ErrSize, 14},
		{propBytes([]byte{1}, one, wholeBytes(256)), api.ErrShort, 16},
		{propBytes([]byte{2}, one, one, []byte{2}, one, one, one, no), api.ErrFloat, 47},
		{propBytes([]byte{2}, one, one, []byte{2}, one, one, one), api.ErrShort, 47},
		{propBytes([]byte{2}, one, one, []byte{2}, one, one, one, one), api.ErrShort, 55},
		{propBytes([]byte{2}, one, one, []byte{2}, one, one, one, one, []byte{0x80, 0}), api.ErrForm, 55},
	} {
		expectNoProp(t, x.b, x.e, x.at)
	}
	wideOne := api.Prop{C: samples.Ones(256), G: samples.Columns(256, 256), K: 1, Looks: 1}
	expectPropBytes(t, wideOne, layProp(wideOne).b)
	past := layProp(api.Prop{C: samples.Ones(257), K: 1, Looks: 1})
	expectNoProp(t, past.b, api.ErrSize, 5)
	past = layProp(api.Prop{C: samples.Ones(1), G: samples.Columns(257, 1), K: 1, Looks: 1})
	expectNoProp(t, past.b, api.ErrSize, 14)
}

// 8.5: claims have a length, and all the same one. Target + 1 begins at 15, the number of claims behind it.
func TestClaimsOfQuestions(t *testing.T) {
	one, no := numberBytes(1), numberBytes(math.Inf(1))
	front := joined([]byte{1}, one, []byte{0, 0})
	for _, x := range []refused{
		{propBytes(front), api.ErrShort, 16},
		{propBytes(front, []byte{0x80, 0}), api.ErrForm, 16},
		{propBytes(front, []byte{65}), api.ErrSize, 16},
		{propBytes(front, greatest()), api.ErrSize, 16},
		{propBytes(front, []byte{64}), api.ErrShort, 17},
		{propBytes(front, []byte{64, 0x80, 0}), api.ErrForm, 17},
		{propBytes(front, []byte{1, 0}), api.ErrCount, 17},
		{propBytes(front, []byte{1, 1}), api.ErrCount, 17},
		{propBytes(front, []byte{1}, wholeBytes(258)), api.ErrCount, 17},
		{propBytes(front, []byte{1}, greatest()), api.ErrCount, 17},
		{propBytes(front, []byte{1}, wholeBytes(257)), api.ErrShort, 19},
		{propBytes(front, []byte{2, 2}, one, no), api.ErrFloat, 26},
		{propBytes(front, []byte{2, 2}, one, one), api.ErrShort, 34},
		{propBytes(front, []byte{2, 2}, one, one, []byte{3}), api.ErrCount, 34},
		{propBytes(front, []byte{2, 2}, one, one, []byte{1}), api.ErrCount, 34},
		{propBytes(front, []byte{2, 3}, one, one, one, []byte{2}), api.ErrCount, 42},
		{propBytes(front, []byte{2, 2}, one, one, []byte{2}, no), api.ErrFloat, 35},
		{propBytes(front, []byte{3, 2}, one, one, []byte{2}, one, one, []byte{3}), api.ErrCount, 51},
		{propBytes(front, []byte{1, 2}, one, one), api.ErrShort, 34},
	} {
		expectNoProp(t, x.b, x.e, x.at)
	}
	many := api.Prop{C: samples.Ones(1), Target: -1, Claims: samples.Columns(64, 257), K: 1, Looks: 1}
	expectPropBytes(t, many, layProp(many).b)
	many.Claims = samples.Columns(65, 2)
	expectNoProp(t, layProp(many).b, api.ErrSize, 16)
}

// 8.5: what CheckForm says is told behind Looks, where Target + 1 begins: here at 15.
func TestFormOfQuestions(t *testing.T) {
	one := numberBytes(1)
	front := joined([]byte{1}, one, []byte{0})
	claim := joined([]byte{1, 3}, one, one, one)
	good := []byte{1, 0, 1}
	for _, x := range []refused{
		{propBytes(front, []byte{0, 0}, good), api.ErrTarget, 15},
		{propBytes(front, []byte{0, 0}, []byte{9, 9, 0x80}), api.ErrShort, 19},
		{propBytes(front, []byte{0, 0}, []byte{9, 9}), api.ErrShort, 19},
		{propBytes(front, []byte{0, 0}, []byte{9, 0x80, 0}), api.ErrForm, 18},
		{propBytes(front, []byte{0, 0}, []byte{0x80, 0}), api.ErrForm, 17},
		{propBytes(front, []byte{0, 0}, []byte{0, 9, 0}), api.ErrTarget, 15},
		{propBytes(front, wholeBytes(257), []byte{0}, good), api.ErrArg, 15},
		{propBytes(front, greatest(), []byte{0}, good), api.ErrArg, 15},
		{propBytes(front, greatest(), []byte{0}, []byte{0, 0, 0}), api.ErrArg, 15},
		{propBytes(front, greatest(), claim, good), api.ErrTarget, 15},
		{propBytes(front, []byte{3}, claim, good), api.ErrTarget, 15},
		{propBytes(front, []byte{3}, claim, []byte{0, 0, 0}), api.ErrTarget, 15},
		{propBytes(front, []byte{2}, claim, []byte{0, 0, 1}), api.ErrBudget, 15},
		{propBytes(front, []byte{2}, claim, []byte{9, 0, 1}), api.ErrBudget, 15},
		{propBytes(front, []byte{2}, claim, []byte{1, 9, 1}), api.ErrBudget, 15},
		{propBytes(front, []byte{2}, claim, []byte{1, 0, 0}), api.ErrBudget, 15},
		{propBytes(front, []byte{2}, claim, []byte{1, 0}, wholeBytes(1025)), api.ErrBudget, 15},
		{propBytes(front, []byte{2}, claim, greatest(), []byte{0, 1}), api.ErrBudget, 15},
		{propBytes(front, []byte{2}, claim, []byte{1}, greatest(), []byte{1}), api.ErrBudget, 15},
		{propBytes(front, []byte{2}, claim, []byte{1, 0}, greatest()), api.ErrBudget, 15},
		{propBytes(front, []byte{1, 0}, good), api.ErrShort, 20},
	} {
		expectNoProp(t, x.b, x.e, x.at)
		if x.at == 15 { // ahead of the sum
			expectNoProp(t, append(x.b, 0, 0, 0, 0, 0), x.e, x.at)
			expectNoProp(t, sealed(x.b...), x.e, x.at)
		}
	}
	for target := range 256 {
		expectPropBytes(t, api.Prop{C: samples.Ones(1), Target: target, K: 1, Looks: 1}, sealed(propBytes(front, wholeBytes(target+1), []byte{0}, good)...))
	}
}

// 8.5: the sum, and what is behind it.
func TestEndOfQuestions(t *testing.T) {
	for _, p := range samples.Props() {
		b := layProp(p).b
		end := len(b) - 4
		for left := range 4 {
			expectNoProp(t, b[:end+left], api.ErrShort, end)
		}
		for i := range 32 {
			turned := slices.Clone(b)
			turned[end+i/8] ^= 1 << (i % 8)
			expectNoProp(t, turned, api.ErrSum, end)
			expectNoProp(t, append(turned, 0), api.ErrSum, end)
		}
		for more := 1; more < 9; more++ {
			expectNoProp(t, append(slices.Clone(b), noughts(more)...), api.ErrRest, len(b))
		}
	}
}
