package text

import (
	"fmt"
	"math"
	"slices"
	"strings"
	"testing"

	"ambit/api"
	"ambit/oracle"
	"ambit/samples"
)

// 9.4, 9.5: each kind of layer, with the words and the lists that it has.
func TestTextsOfKinds(t *testing.T) {
	minus := oracle.MinusZero()
	for _, c := range []struct {
		in    api.Shape
		layer api.Layer
		lines []string
	}{
		{samples.Line(2), api.Layer{Kind: api.KDense, Out: 1, W: []float64{0.5, -2}, B: []float64{minus}}, []string{"dense 1", "w 0x1p-1 -0x1p+1", "b -0x0p+0"}},
		{samples.Shape(1, 2, 3), api.Layer{Kind: api.KConv, Out: 1, KH: 2, KW: 3, SH: 4, SW: 5, PH: 0, PW: 1, W: []float64{1, 2, 3, 4, 5, 6}, B: []float64{7}},
			[]string{"conv 1 2 3 4 5 0 1", "w 0x1p+0 0x1p+1 0x1.8p+1 0x1p+2 0x1.4p+2 0x1.8p+2", "b 0x1.cp+2"}},
		{samples.Shape(2, 1, 1), api.Layer{Kind: api.KScale, W: []float64{1, 2}, B: []float64{0, 0.25}}, []string{"scale", "w 0x1p+0 0x1p+1", "b 0x0p+0 0x1p-2"}},
		{samples.Shape(1, 2, 3), api.Layer{Kind: api.KMean, KH: 2, KW: 3, SH: 4, SW: 5, PH: 0, PW: 1, A: -0.1}, []string{"mean 2 3 4 5 0 1 -0x1.999999999999ap-4"}},
		{samples.Line(1), api.Layer{Kind: api.KAdd}, []string{"add 0"}},
		{samples.Line(2), api.Layer{Kind: api.KTurn, Out: 2, Z: []complex128{1 + 2i, 3 - 4i}, ZB: []complex128{complex(minus, 5), complex(6, minus)}},
			[]string{"turn 2", "z 0x1p+0 0x1p+1 0x1.8p+1 -0x1p+2", "zb -0x0p+0 0x1.4p+2 0x1.8p+2 -0x0p+0"}},
		{samples.Line(1), api.Layer{Kind: api.KRelu}, []string{"relu"}},
		{samples.Line(1), api.Layer{Kind: api.KLeaky, A: 1}, []string{"leaky 0x1p+0"}},
		{samples.Line(1), api.Layer{Kind: api.KLeaky, A: minus}, []string{"leaky -0x0p+0"}},
		{samples.Line(1), api.Layer{Kind: api.KTanh}, []string{"tanh"}},
		{samples.Line(1), api.Layer{Kind: api.KSigmoid}, []string{"sigmoid"}},
		{samples.Line(1), api.Layer{Kind: api.KSquare}, []string{"square"}},
		{samples.Shape(1, 2, 3), api.Layer{Kind: api.KMax, KH: 2, KW: 3, SH: 4, SW: 5, PH: 0, PW: 1}, []string{"max 2 3 4 5 0 1"}},
	} {
		head := fmt.Sprintf("net %d %d %d", c.in.C, c.in.H, c.in.W)
		expectNetText(t, api.Net{In: c.in, Layers: []api.Layer{c.layer}}, text(slices.Concat([]string{head}, c.lines, []string{"end"})...))
	}
	expectNetText(t, api.Net{In: samples.Shape(2, 3, 4)}, text("net 2 3 4", "end"))
	expectNetText(t, samples.Named(api.Net{In: samples.Line(3)}, "a", "é", "end"), text("net 1 1 3", "names a é end", "end"))
	for _, n := range samples.Nets() {
		expectNetText(t, n, layNet(n))
	}
}

// 9.5: numbers are written in many ways; names are any words.
func TestOtherWaysToWriteANetwork(t *testing.T) {
	n := api.Net{In: samples.Line(2), Layers: []api.Layer{
		{Kind: api.KDense, Out: 1, W: []float64{0.1, -oracle.Least}, B: []float64{oracle.MinusZero()}},
		{Kind: api.KLeaky, A: 0.25},
	}, Names: []string{"w"}}
	for _, s := range []string{
		"net 1 1 2\ndense 1\nw 0.1 -3e-324\nb -1e-400\nleaky 0.25\nnames w\nend",
		"net 1 1 2\ndense 1\nw 1e-1 -0x1p-1074\nb -0\nleaky 25e-2\nnames w\nend\n",
		"\n\n net\t1 1\t\t2 \n\tdense 1#\n # w\nw 00.10 -4.9e-324 # two of them\nb -0.000#b\nleaky 0x1p-2\nnames w#x\nend # of it\n\n# all\n\t\n",
	} {
		expectNet(t, s, n)
	}
	expectNet(t, "net 1 1 3\nnames net 1 \x21\nend", samples.Named(api.Net{In: samples.Line(3)}, "net", "1", "!"))
	expectNet(t, "net 1 1 1\nnames \ufffd\nend # \ufffd", samples.Named(api.Net{In: samples.Line(1)}, "\ufffd"))
	expectNet(t, "net 1 1 1\nnames "+strings.Repeat("𝄞", 32)+"\nend", samples.Named(api.Net{In: samples.Line(1)}, strings.Repeat("𝄞", 32)))
}

// 9.4: what model.Check refuses is not printed.
func TestPrintNetErrors(t *testing.T) {
	expectNoNetText(t, api.Net{}, api.ErrShape)
	expectNoNetText(t, api.Net{In: samples.Shape(1, 1, 257)}, api.ErrShape)
	for e, n := range map[api.Errno]api.Net{
		api.ErrKind:   {In: samples.Line(1), Layers: []api.Layer{{Kind: 13}}},
		api.ErrField:  {In: samples.Line(1), Layers: []api.Layer{{Kind: api.KRelu, Out: 1}}},
		api.ErrCount:  {In: samples.Line(1), Layers: []api.Layer{{Kind: api.KDense, Out: 1}}},
		api.ErrNumber: {In: samples.Line(1), Layers: []api.Layer{{Kind: api.KDense, Out: 1, W: []float64{math.NaN()}, B: []float64{0}}}},
		api.ErrSize:   {In: samples.Line(1), Layers: slices.Repeat([]api.Layer{samples.Relu()}, 65)},
		api.ErrFrom:   {In: samples.Line(1), Layers: []api.Layer{samples.Add(1)}},
		api.ErrName:   {In: samples.Line(1), Names: []string{"a b"}},
	} {
		expectNoNetText(t, n, e)
	}
	for _, s := range []string{"", "a b", "a\nb", "a#", "\t", "a\xff", strings.Repeat("a", 33)} {
		expectNoNetText(t, samples.Named(api.Net{In: samples.Line(1)}, s), api.ErrName)
	}
	for _, a := range oracle.NoNumbers() {
		expectNoNetText(t, samples.Network(samples.Line(1), samples.Leaky(a)), api.ErrNumber)
		turn := samples.Network(samples.Line(2), samples.Turn(1))
		turn.Layers[0].ZB[0] = complex(0, a)
		expectNoNetText(t, turn, api.ErrNumber)
	}
}

// sized is a network whose text has so many bytes.
func sized(t *testing.T, bytes int) api.Net {
	t.Helper()
	n := api.Net{In: samples.Line(255), Layers: []api.Layer{{Kind: api.KDense, Out: 256, W: samples.Ones(256 * 255), B: samples.Ones(256)}}}
	w := n.Layers[0].W
	left := bytes - len(layNet(n))
	for i := 0; left > 0; i++ {
		// The text of 1 is 6 bytes long, those of these 20, 7 and 8.
		switch {
		case left >= 14:
			w[i] = 1 + 0x1p-52
			left -= 14
		case left == 1:
			w[i] = -1
			left--
		default:
			w[i] = 1.5
			left -= 2
		}
	}
	if len(layNet(n)) != bytes {
		t.Fatal("another length")
	}
	return n
}

// 9.4, 9.5: a text of MaxText bytes, and one of a byte more.
func TestMaxTextOfNetworks(t *testing.T) {
	for _, less := range []int{0, 1, 2, 3, 1000} {
		n := sized(t, api.MaxText-less)
		expectNetText(t, n, layNet(n))
	}
	for _, more := range []int{1, 2, 5, 100000} {
		n := sized(t, api.MaxText+more)
		expectNoNetText(t, n, api.ErrLong)
		expectNoNet(t, layNet(n), api.ErrLong, 0)
	}
	all := "net 1 1 1\nend\n"
	for _, fill := range []string{" ", "\n", "#", "\t"} {
		filled := all + strings.Repeat(fill, api.MaxText-len(all))
		expectNet(t, filled, api.Net{In: samples.Line(1)})
		expectNoNet(t, filled+fill, api.ErrLong, 0)
		expectNoNet(t, fill+filled, api.ErrLong, 0)
	}
	expectNoNet(t, strings.Repeat("\n", api.MaxText), api.ErrEnd, api.MaxText+1)
	expectNoNet(t, strings.Repeat("\xff", api.MaxText), api.ErrUTF, 1)
	expectNoNet(t, strings.Repeat("\xff", api.MaxText+1), api.ErrLong, 0)
	expectNoNet(t, strings.Repeat("x", api.MaxText), api.ErrLine, 1)
}

// 9.5: the line of the first place at which no code point stands.
func TestNoTexts(t *testing.T) {
	good := "net 1 1 1\nrelu # é\nend\n"
	for _, broken := range []string{
		"\xff", "\x80", "\xbf", "\xc0\x80", "\xc1\xbf", "\xc3", "\xc3\n", "\xe0\x80\x80", "\xe0\x9f\xbf", "\xe2\x82", "\xe2\x82\n", "\xe2", "\xe2\n\n", "\xed\xa0\x80", "\xed\xbf\xbf", "\xef\xbf",
		"\xf0\x80\x80\x80", "\xf0\x9d\x84", "\xf0\x9d\x84\n", "\xf4\x90\x80\x80", "\xf5\x80\x80\x80", "\xfe",
	} {
		for i := range len(good) + 1 {
			if i == strings.Index(good, "é")+1 {
				continue
			}
			line := 1 + strings.Count(good[:i], "\n")
			expectNoNet(t, good[:i]+broken+good[i:], api.ErrUTF, line)
			expectNoProp(t, good[:i]+broken+good[i:], api.ErrUTF, line)
			expectNoNet(t, good[:i]+broken, api.ErrUTF, line)
		}
	}
	// Into the two bytes of é: they are no code point any more from the first of them on.
	expectNoNet(t, strings.Replace(good, "é", "\xc3\n\xa9", 1), api.ErrUTF, 2)
	expectNoNet(t, "\n\n#\ufffd\xff\n\xff", api.ErrUTF, 3)
	// Ahead of whatever else is wrong, in the lines ahead too.
	expectNoNet(t, "what\nis this\n\xff", api.ErrUTF, 3)
	expectNoNet(t, "net 1\n\n\nend\nend\n # \xff", api.ErrUTF, 6)
	expectNet(t, "net 1 1 1 #\u0080\u07ff\u0800\uffff\ufffd\U00010000\U0010ffff\x00\x7f\nend", api.Net{In: samples.Line(1)})
}

// A beginning is a network's text up to a place, and the words that may begin the line behind it.
type beginning struct {
	lines []string
	may   string
}

const (
	anyLayer = "dense conv scale mean add turn relu leaky tanh sigmoid square max"
	behind   = anyLayer + " names end"
)

func netBeginnings() []beginning {
	all := []beginning{
		{nil, "net"},
		{[]string{"net 1 1 2"}, behind},
		{[]string{"net 1 1 2", "dense 2"}, "w"},
		{[]string{"net 1 1 2", "dense 2", "w 1 2 3 4"}, "b"},
		{[]string{"net 1 1 2", "dense 2", "w 1 2 3 4", "b 1 2"}, behind},
		{[]string{"net 1 1 2", "conv 1 1 1 1 1 0 0"}, "w"},
		{[]string{"net 1 1 2", "conv 1 1 1 1 1 0 0", "w 1"}, "b"},
		{[]string{"net 1 1 2", "conv 1 1 1 1 1 0 0", "w 1", "b 1"}, behind},
		{[]string{"net 1 1 2", "scale"}, "w"},
		{[]string{"net 1 1 2", "scale", "w 1"}, "b"},
		{[]string{"net 1 1 2", "scale", "w 1", "b 1"}, behind},
		{[]string{"net 1 1 2", "turn 1"}, "z"},
		{[]string{"net 1 1 2", "turn 1", "z 1 2"}, "zb"},
		{[]string{"net 1 1 2", "turn 1", "z 1 2", "zb 1 2"}, behind},
		{[]string{"net 1 1 2", "names a b"}, "end"},
		{[]string{"net 1 1 2", "relu", "names a b"}, "end"},
		{[]string{"net 1 1 2", "names a b", "end"}, ""},
		{[]string{"net 1 1 2", "end"}, ""},
	}
	for _, head := range []string{"mean 1 1 1 1 0 0 1", "add 0", "relu", "leaky 0.5", "tanh", "sigmoid", "square", "max 1 1 1 1 0 0"} {
		all = append(all, beginning{[]string{"net 1 1 2", head}, behind})
	}
	return all
}

// otherWords begin no line.
func otherWords() []string {
	return []string{"Net", "NET", "nets", "ne", "layer", "softmax", "W", "B", "1", "0x1p+0", "-", "é", "net\r", "net\u00a0", "\u2003net", "end\x00", "end\v", "end\f", "\x00", "\\n", "prop:", "\ufffd"}
}

// 9.5: which words may begin a line, and where.
func TestHeadsOfNetworks(t *testing.T) {
	for _, b := range netBeginnings() {
		may := strings.Fields(b.may)
		for _, word := range append(vocabulary(), otherWords()...) {
			s := text(append(slices.Clone(b.lines), word)...)
			line := len(b.lines) + 1
			_, e, at := ReadNet(s)
			if slices.Contains(may, word) != (e != api.ErrLine) {
				t.Errorf("%q behind %q: %v at %d", word, b.lines, e, at)
			}
			if e == api.ErrLine && at != line {
				t.Errorf("%q behind %q: ErrLine at %d", word, b.lines, at)
			}
			// Behind lines that say nothing it stands in a later one.
			if e == api.ErrLine {
				expectNoNet(t, strings.Repeat("\n", 3)+s, api.ErrLine, line+3)
				expectNoNet(t, text(append(slices.Clone(b.lines), "", " # x", word+" 1 2 3")...), api.ErrLine, line+2)
			}
		}
	}
}

// 9.5: `end` is missing: the number behind the last line's.
func TestEndIsMissing(t *testing.T) {
	for _, b := range netBeginnings() {
		if b.may == "" {
			continue
		}
		s := strings.Join(b.lines, "\n")
		expectNoNet(t, s, api.ErrEnd, len(b.lines)+1)
		n := max(len(b.lines), 1)
		expectNoNet(t, s+"\n", api.ErrEnd, n+1)
		expectNoNet(t, s+"\n\n", api.ErrEnd, n+2)
		expectNoNet(t, s+"\n\n ", api.ErrEnd, n+3)
		expectNoNet(t, s+"\n\n# end", api.ErrEnd, n+3)
		expectNoNet(t, s+"\n\t#\n", api.ErrEnd, n+2)
	}
	expectNoNet(t, " ", api.ErrEnd, 2)
	expectNoNet(t, "#", api.ErrEnd, 2)
	expectNoNet(t, "\n", api.ErrEnd, 2)
	expectNoNet(t, "\n\n", api.ErrEnd, 3)
	expectNoNet(t, "# net 1 1 1\n# end", api.ErrEnd, 3)
}

// A sentence is a line as it may be, and how many words may stand behind its head (any count: -1).
type sentence struct {
	ahead []string
	line  string
	count int
}

func netSentences() []sentence {
	net := []string{"net 1 1 2"}
	return []sentence{
		{nil, "net 1 1 2", 3},
		{net, "dense 2", 1},
		{net, "conv 1 1 1 1 1 0 0", 7},
		{net, "scale", 0},
		{net, "mean 1 1 1 1 0 0 0.5", 7},
		{net, "add 0", 1},
		{net, "turn 1", 1},
		{net, "relu", 0},
		{net, "leaky 0.5", 1},
		{net, "tanh", 0},
		{net, "sigmoid", 0},
		{net, "square", 0},
		{net, "max 1 1 1 1 0 0", 6},
		{append(net, "dense 2"), "w 1 2 3 4", -1},
		{append(net, "dense 2", "w 1 2 3 4"), "b 1 2", -1},
		{append(net, "turn 1"), "z 1 2", -1},
		{append(net, "turn 1", "z 1 2"), "zb 1 2", -1},
		{net, "end", 0},
	}
}

// expectSentences holds a reader to how many words may stand behind each head, and to what they may be.
func expectSentences(t *testing.T, all []sentence, expect func(t *testing.T, s string, e api.Errno, line int), read func(s string) (api.Errno, int)) {
	t.Helper()
	for _, c := range all {
		line := len(c.ahead) + 1
		put := func(words ...string) string { return text(append(slices.Clone(c.ahead), strings.Join(words, " "))...) }
		// What is wrong in the lines behind is not told.
		wrong := func(words ...string) {
			t.Helper()
			expect(t, put(words...), api.ErrWord, line)
			expect(t, put(words...)+"\n\nnonsense 1\n", api.ErrWord, line)
		}
		right := func(words ...string) {
			t.Helper()
			if e, at := read(put(words...)); e == api.ErrWord || e == api.ErrLine {
				t.Errorf("%q: %v at %d", words, e, at)
			}
		}
		words := strings.Fields(c.line)
		right(words...)
		if c.count >= 0 {
			wrong(append(slices.Clone(words), "1")...)
			wrong(append(slices.Clone(words), "x")...)
			wrong(append(slices.Clone(words), words...)...)
			for n := 1; n <= c.count; n++ {
				wrong(words[:n]...)
			}
		}
		for i := 1; i < len(words); i++ {
			for _, odd := range []string{"x", "-", "1e400", "0x1", "+1", "1.", "٣", "1\r", "\u00a01", "end", "1" + noughts(1100)} {
				other := slices.Clone(words)
				other[i] = odd
				wrong(other...)
			}
			// A whole number is none of these; A and the numbers of a list may be.
			number := c.count < 0 || words[0] == "leaky" || words[0] == "mean" && i == 7
			for _, odd := range []string{"1.0", "1e0", "0x1p+0", "-0", "01", "9223372036854775808"} {
				other := slices.Clone(words)
				other[i] = odd
				if number {
					right(other...)
				} else {
					wrong(other...)
				}
			}
			for _, whole := range []string{"0", "-1", "9223372036854775807", "-9223372036854775808"} {
				other := slices.Clone(words)
				other[i] = whole
				right(other...)
			}
		}
	}
}

// 9.5: too many and too few words, and words that are not what must stand there.
func TestWordsOfNetworks(t *testing.T) {
	expectSentences(t, netSentences(), expectNoNet, func(s string) (api.Errno, int) {
		_, e, at := ReadNet(s)
		return e, at
	})
	for _, head := range []string{"z", "zb"} {
		ahead := []string{"net 1 1 2", "turn 1"}
		if head == "zb" {
			ahead = append(ahead, "z 1 2")
		}
		for n := range 8 {
			s := text(append(slices.Clone(ahead), head+strings.Repeat(" 1", n))...)
			if n%2 == 1 {
				expectNoNet(t, s, api.ErrWord, len(ahead)+1)
			} else {
				expectNoNet(t, s, api.ErrEnd, len(ahead)+2)
			}
		}
	}
	expectNoNet(t, "net 1 1 1\nnames\nend", api.ErrWord, 2)
	expectNoNet(t, "net 1 1 1\nnames # a\nend", api.ErrWord, 2)
	expectNoNet(t, "net 1 1 1\nend 1\n", api.ErrWord, 2)
	expectNoNet(t, "net 1 1 # 1\nend", api.ErrWord, 1)
	expectNoNet(t, "net 1 1 1 1\nend", api.ErrWord, 1)
	expectNet(t, "net 1 1 1# 1\nend", api.Net{In: samples.Line(1)})
	long := strings.Repeat("1", api.MaxDigits-5) + "e-999"
	expectNoNet(t, "net 1 1 1\nleaky 0."+noughts(api.MaxDigits-1)+"\nend", api.ErrWord, 2)
	expectNet(t, "net 1 1 1\nleaky 0."+noughts(api.MaxDigits-2)+"\nend", samples.Network(samples.Line(1), samples.Leaky(0)))
	expectNoNet(t, "net 1 1 1\nleaky "+long+"\nend", api.ErrField, 2)
}

// 9.5: lines behind `end`.
func TestBehindTheEnd(t *testing.T) {
	for _, s := range []string{"", "\n", "\n\n\n", "\n#", "\n # end\n\t \n", "# end"} {
		expectNet(t, "net 1 1 1\nend"+s, api.Net{In: samples.Line(1)})
	}
	for _, word := range append(vocabulary(), "x", "-", "1") {
		expectNoNet(t, "net 1 1 1\nend\n"+word, api.ErrLine, 3)
		expectNoNet(t, "net 1 1 1\nend\n\n#\n\t"+word+" 1 2 3\n", api.ErrLine, 5)
		expectNoNet(t, "net 1 1 1\nend\n\n"+word+"\nx\ny", api.ErrLine, 4)
	}
}

// 9.5: the error of model.Check, with the line of the head of the layer that it is told of, or of `net`.
func TestNetworksThatMayNotBe(t *testing.T) {
	for _, c := range []struct {
		s    string
		e    api.Errno
		line int
	}{
		{"#\nnet 1 1 0\nend", api.ErrShape, 2},
		{"net 1 1 257\nend", api.ErrShape, 1},
		{"net -1 -1 1\nrelu\nend", api.ErrShape, 1},
		{"net 9223372036854775807 9223372036854775807 9223372036854775807\nend", api.ErrShape, 1},
		{"\nnet 1 1 1\n" + strings.Repeat("relu\n", 65) + "end", api.ErrSize, 2},
		{"net 1 1 1\n\ndense 0\nw\nb\nend", api.ErrField, 3},
		{"net 1 1 1\ndense 257\nw\nb\nend", api.ErrField, 2},
		{"net 1 1 1\nrelu\nleaky 2\nend", api.ErrField, 3},
		{"net 1 1 1\nrelu\nleaky -0x1p-1074\nend", api.ErrField, 3},
		{"net 1 1 1\nmax 1 1 1 1 1 0\nend", api.ErrField, 2},
		{"net 1 1 1\nadd -1\nend", api.ErrField, 2},
		{"net 1 1 1\nadd 65\nend", api.ErrField, 2},
		{"net 1 1 1\nmax 2 1 1 1 0 0\nend", api.ErrShape, 2},
		{"net 1 1 3\nturn 1\nz 1 1\nzb 1 1\nend", api.ErrShape, 2},
		{"net 1 1 1\nscale\nw 1\nb 1\nscale\nw 1 1\nb 1\nend", api.ErrCount, 5},
		{"net 1 1 1\nscale\nw 1\nb 1\n\nscale\nw 1\nb\nend", api.ErrCount, 6},
		{"net 1 1 2\nturn 1\nz 1 1 1 1\nzb 1 1\nend", api.ErrCount, 2},
		{"net 1 1 2\nturn 1\nz\nzb\nend", api.ErrCount, 2},
		{"net 1 1 1\n#\n#\nrelu\nadd 2\nend", api.ErrFrom, 5},
		{"net 1 2 1\nmax 2 1 1 1 0 0\nadd 0\nend", api.ErrFrom, 3},
		{"\n\nnet 1 1 2\nrelu\nnames a\nend", api.ErrCount, 3},
		{"net 1 1 2\nrelu\nnames a a\nend", api.ErrName, 1},
		{"\nnet 1 1 2\nnames a b\r\nend", api.ErrName, 2},
		{"net 1 1 1\nnames \u00a0\nend", api.ErrName, 1},
		{"net 1 1 1\nnames " + strings.Repeat("a", 33) + "\nend", api.ErrName, 1},
		{"net 1 1 1\nnames a b\n\nend", api.ErrCount, 1},
		// The first of several.
		{"net 1 1 0\ndense 0\nw\nb\nend", api.ErrShape, 1},
		{"net 1 1 1\nadd 1\nleaky 2\nnames a a\nend", api.ErrFrom, 2},
		{"net 1 1 1\nleaky 2\nadd 5\nnames a a\nend", api.ErrField, 2},
		// Ahead of all that: what is wrong with a line, wherever.
		{"net 1 1 0\nleaky 2\nend 1", api.ErrWord, 3},
		{"net 1 1 0\nleaky 2\n", api.ErrEnd, 3},
		{"net 1 1 0\nend\nend", api.ErrLine, 3},
	} {
		expectNoNet(t, c.s, c.e, c.line)
	}
	w := strings.Repeat(" 1", 256*255)
	b := strings.Repeat(" 1", 256)
	fits := "net 1 1 255\ndense 256\nw" + w + "\nb" + b + "\n"
	expectNet(t, fits+"end", api.Net{In: samples.Line(255), Layers: []api.Layer{{Kind: api.KDense, Out: 256, W: samples.Ones(256 * 255), B: samples.Ones(256)}}})
	expectNoNet(t, fits+"relu\nscale\nw"+b+"\nb"+b+"\nend", api.ErrSize, 6)
}

// 9.5: the first line in which something is wrong is told, whatever is wrong behind it.
func TestFirstLineFirst(t *testing.T) {
	for _, c := range []struct {
		s    string
		e    api.Errno
		line int
	}{
		{"net 1 1\nwhat\n", api.ErrWord, 1},
		{"what\nnet 1 1\n", api.ErrLine, 1},
		{"net 1 1 1\ndense x\nb 1\n", api.ErrWord, 2},
		{"net 1 1 1\ndense 1\nb x\n", api.ErrLine, 3},
		{"net 1 1 1\ndense 1\nw x\nz\n", api.ErrWord, 3},
		{"net 1 1 1\nend 1\nend", api.ErrWord, 2},
		{"net 1 1 1\nnames\nnames", api.ErrWord, 2},
		{"net 1 1 1\nnames a\nrelu x\nend", api.ErrLine, 3},
		// In one line: its head ahead of its words.
		{"net 1 1 1\nw x", api.ErrLine, 2},
		{"dense", api.ErrLine, 1},
	} {
		expectNoNet(t, c.s, c.e, c.line)
	}
}
