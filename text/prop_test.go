package text

import (
	"math"
	"slices"
	"strings"
	"testing"

	"ambit/api"
	"ambit/oracle"
	"ambit/samples"
)

// 9.4, 9.6
func TestTextsOfQuestions(t *testing.T) {
	expectPropText(t, api.Prop{}, text("prop", "c", "target 0", "k 0", "depth 0", "looks 0", "end"))
	expectPropText(t,
		api.Prop{C: []float64{1, oracle.MinusZero()}, G: [][]float64{{2, 0.5}, nil, {-3}}, Target: -1, Claims: [][]float64{{0.1, -1}, {}}, K: -3, Depth: 4, Looks: 5},
		text("prop", "c 0x1p+0 -0x0p+0", "g 0x1p+1 0x1p-1", "g", "g -0x1.8p+1", "target -1", "claim 0x1.999999999999ap-4 -0x1p+0", "claim", "k -3", "depth 4", "looks 5", "end"))
	// Whatever else it holds.
	expectPropText(t, api.Prop{Target: math.MinInt, K: math.MaxInt, Depth: math.MinInt, Looks: math.MaxInt},
		text("prop", "c", "target -9223372036854775808", "k 9223372036854775807", "depth -9223372036854775808", "looks 9223372036854775807", "end"))
	many := api.Prop{C: samples.Counted(1000), G: samples.Columns(300, 2), Claims: samples.Columns(100, 300), Target: 1000}
	expectPropText(t, many, layProp(many))
	for _, p := range samples.Props() {
		expectPropText(t, p, layProp(p))
	}
}

// 9.6: numbers are written in many ways, and so are lines.
func TestOtherWaysToWriteAQuestion(t *testing.T) {
	p := api.Prop{C: []float64{0.5}, G: [][]float64{{0.1}}, Claims: [][]float64{{1, oracle.MinusZero()}}, Target: -1, K: 1, Depth: 2, Looks: 3}
	for _, s := range []string{
		"prop\nc 0.5\ng 0.1\ntarget -1\nclaim 1 -0\nk 1\ndepth 2\nlooks 3\nend",
		"# a question\n\n\tprop#\nc 5e-1 #5\n\n g\t1e-1\ntarget -1\nclaim  0x1p0   -1e-9999\nk 1\ndepth 2 # or more\nlooks 3\nend\n\n# end\n",
	} {
		expectProp(t, s, p)
	}
}

// 9.4: what is no number is not printed; that is told ahead of the length.
func TestPrintPropErrors(t *testing.T) {
	for _, a := range oracle.NoNumbers() {
		for _, p := range []api.Prop{
			{C: []float64{a}},
			{C: []float64{0, 1, a}},
			{G: [][]float64{{1}, {2, a}}},
			{Claims: [][]float64{{1}, nil, {a, 2}}},
			{C: samples.Ones(200000), Claims: [][]float64{{a}}},
		} {
			expectNoPropText(t, p, api.ErrNumber)
		}
	}
}

// 9.4, 9.6: a text of MaxText bytes, and one of a byte more.
func TestMaxTextOfQuestions(t *testing.T) {
	p := api.Prop{C: samples.Ones(149000)}
	left := api.MaxText - len(layProp(p))
	for i := range left / 14 {
		p.C[i] = 1 + 0x1p-52
	}
	for left%14 > 0 {
		left--
		p.C[len(p.C)-1-left%14] = -1
	}
	if len(layProp(p)) != api.MaxText {
		t.Fatalf("%d bytes", len(layProp(p)))
	}
	expectPropText(t, p, layProp(p))
	for _, more := range []api.Prop{
		{C: p.C, K: -1}, {C: p.C, Looks: 10}, {C: p.C, G: [][]float64{nil}}, {C: p.C, Claims: [][]float64{nil}}, {C: append(slices.Clone(p.C), 1)}, {G: samples.Columns(1000, 1000)},
	} {
		expectNoPropText(t, more, api.ErrLong)
		expectNoProp(t, layProp(more), api.ErrLong, 0)
	}
	expectNoProp(t, strings.Repeat("\xff", api.MaxText+1), api.ErrLong, 0)
	expectNoProp(t, strings.Repeat("\n", api.MaxText), api.ErrEnd, api.MaxText+1)
}

func propBeginnings() []beginning {
	all := strings.Split("prop,c 1,g 1,g,target 1,claim 1 2,claim,k 1,depth 1,looks 1,end", ",")
	may := []string{"prop", "c", "g target", "g target", "g target", "claim k", "claim k", "claim k", "depth", "looks", "end", ""}
	var l []beginning
	for i := range may {
		l = append(l, beginning{all[:i], may[i]})
	}
	return append(l,
		beginning{[]string{"prop", "c"}, "g target"},
		beginning{[]string{"prop", "c", "target 0"}, "claim k"},
		beginning{[]string{"prop", "c", "target 0", "k 1"}, "depth"},
	)
}

// 9.6: which words may begin a line, and where.
func TestHeadsOfQuestions(t *testing.T) {
	for _, b := range propBeginnings() {
		may := strings.Fields(b.may)
		for _, word := range append(vocabulary(), otherWords()...) {
			s := text(append(slices.Clone(b.lines), word)...)
			line := len(b.lines) + 1
			_, e, at := ReadProp(s)
			if slices.Contains(may, word) != (e != api.ErrLine) {
				t.Errorf("%q behind %q: %v at %d", word, b.lines, e, at)
			}
			if e == api.ErrLine && at != line {
				t.Errorf("%q behind %q: ErrLine at %d", word, b.lines, at)
			}
		}
		if b.may != "" {
			expectNoProp(t, strings.Join(b.lines, "\n"), api.ErrEnd, len(b.lines)+1)
			expectNoProp(t, strings.Join(b.lines, "\n")+"\n\n#", api.ErrEnd, max(len(b.lines), 1)+3)
		}
	}
}

// 9.6: too many and too few words, and words that are not what must stand there.
func TestWordsOfQuestions(t *testing.T) {
	ahead := []string{"prop", "c 1", "target 1", "k 1", "depth 1", "looks 1"}
	expectSentences(t, []sentence{
		{nil, "prop", 0},
		{ahead[:1], "c 1 2 3", -1},
		{ahead[:2], "g 1 2 3", -1},
		{ahead[:2], "target 1", 1},
		{ahead[:3], "claim 1 2 3", -1},
		{ahead[:3], "k 1", 1},
		{ahead[:4], "depth 1", 1},
		{ahead[:5], "looks 1", 1},
		{ahead[:6], "end", 0},
	}, expectNoProp, func(s string) (api.Errno, int) {
		_, e, at := ReadProp(s)
		return e, at
	})
	expectNoProp(t, "prop 1\nwhat", api.ErrWord, 1)
	expectNoProp(t, "prop\nc 1\ng 1 x\nend", api.ErrWord, 3)
	expectNoProp(t, "prop\nc 1\ntarget 1\nclaim 1 1e309\nend", api.ErrWord, 4)
	expectNoProp(t, "prop\nc 1\ntarget 0\ng 1\nend", api.ErrLine, 4)
	expectNoProp(t, "prop\nc\ntarget 0\nk 1\ndepth 0\nlooks 1\nend\n\nk 1", api.ErrLine, 9)
}

// 9.5, 9.6: a network's text is no question's, and a question's no network's.
func TestOthersTexts(t *testing.T) {
	for _, n := range samples.Nets() {
		expectNoProp(t, layNet(n), api.ErrLine, 1)
	}
	for _, p := range samples.Props() {
		expectNoNet(t, "\n"+layProp(p), api.ErrLine, 2)
	}
}
