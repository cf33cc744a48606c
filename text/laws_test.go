package text

import (
	"math/big"
	"slices"
	"strconv"
	"strings"
	"testing"
	"unsafe"

	"ambit/api"
	"ambit/model"
	"ambit/oracle"
	"ambit/samples"
)

// 9.4, 9.5, 9.6, 9.7: back, bit for bit.
func TestBack(t *testing.T) {
	var m oracle.Mixer
	for range 8000 {
		n, p := samples.MixedNet(&m), samples.MixedProp(&m)
		expectNetText(t, n, layNet(n))
		expectPropText(t, p, layProp(p))
		if t.Failed() {
			return
		}
	}
}

// 9.4, 9.7: the greatest network that may be, with numbers of few digits, and one of as many layers and names as any has.
func TestGreatest(t *testing.T) {
	n := samples.Network(samples.Shape(255, 1, 1), samples.Dense(256))
	for range 63 {
		n.Layers = append(n.Layers, samples.Windowed(api.KMean, 1, 1, 1, 1, 0, 0))
	}
	for i := range 256 {
		n.Names = append(n.Names, strings.Repeat("𝄞", 31)+string(rune(0x10000+i)))
	}
	expectNetText(t, n, layNet(n))
	if e, _ := model.Check(n); e != api.OK || model.Weights(n) != api.MaxWeights {
		t.Errorf("%v, %d weights", e, model.Weights(n))
	}
}

// expectSteady holds what is read of a text to being the same, printed and read again, and to the same text, printed again; it tells whether something was read.
func expectSteady(t *testing.T, s string) bool {
	t.Helper()
	n, e, _ := ReadNet(s)
	if e == api.OK {
		printed, f := PrintNet(n)
		again, g, _ := ReadNet(printed)
		twice, h := PrintNet(again)
		if f != api.OK || g != api.OK || h != api.OK || !samples.SameNet(n, again) || printed != twice {
			t.Errorf("%q is read as %+v, printed as %q and read as %+v: %v %v %v", s, n, printed, again, f, g, h)
		}
	}
	p, d, _ := ReadProp(s)
	if d == api.OK {
		printed, f := PrintProp(p)
		again, g, _ := ReadProp(printed)
		twice, h := PrintProp(again)
		if f != api.OK || g != api.OK || h != api.OK || !samples.SameProp(p, again) || printed != twice {
			t.Errorf("%q is read as %+v, printed as %q and read as %+v: %v %v %v", s, p, printed, again, f, g, h)
		}
	}
	if e == api.OK && d == api.OK {
		t.Errorf("%q is a network and a question", s)
	}
	return e == api.OK || d == api.OK
}

// decimalWords is a text in which some numbers are written in decimal digits.
func decimalWords(m *oracle.Mixer, s string) string {
	all := strings.Split(s, " ")
	for i, word := range all {
		word, rest, _ := strings.Cut(word, "\n")
		if a, ok := Number(word); ok && strings.Contains(word, "p") && m.Below(2) == 0 {
			all[i] = strconv.FormatFloat(a, 'e', []int{-1, 3, 40}[m.Below(3)], 64)
			if rest != "" {
				all[i] += "\n" + rest
			}
		}
	}
	return strings.Join(all, " ")
}

// 9.7: what is read and can be printed stays as it is.
func TestWhatIsReadIsSteady(t *testing.T) {
	var m oracle.Mixer
	read := 0
	for range 8000 {
		for _, s := range []string{layNet(samples.MixedNet(&m)), layProp(samples.MixedProp(&m))} {
			if expectSteady(t, spoilt(&m, s)) {
				read++
			}
			if expectSteady(t, loosened(&m, decimalWords(&m, s))) {
				read++
			}
		}
		if t.Failed() {
			return
		}
	}
	if read < 10000 {
		t.Errorf("%d were read only", read)
	}
}

// 9.7: what is read may be too long to be printed.
func TestReadButTooLongToPrint(t *testing.T) {
	w := strings.Repeat(" 0.1", 256*255)
	n, e, _ := ReadNet("net 1 1 255\ndense 256\nw" + w + "\nb" + strings.Repeat(" 0.1", 256) + "\nend")
	if e != api.OK || model.Weights(n) != api.MaxWeights {
		t.Fatalf("%v, %d weights", e, model.Weights(n))
	}
	expectNoNetText(t, n, api.ErrLong)
	p, e, _ := ReadProp("prop\nc" + w + "\ntarget 0\nk 1\ndepth 0\nlooks 1\nend")
	if e != api.OK || len(p.C) != 256*255 {
		t.Fatalf("%v, %d numbers", e, len(p.C))
	}
	expectNoPropText(t, p, api.ErrLong)
}

// 9.7: blanks, tabs, empty lines and remarks turn nothing.
func TestLoosenedTexts(t *testing.T) {
	var m oracle.Mixer
	for range 8000 {
		n, p := samples.MixedNet(&m), samples.MixedProp(&m)
		expectNet(t, loosened(&m, layNet(n)), n)
		expectProp(t, loosened(&m, layProp(p)), p)
		if t.Failed() {
			return
		}
	}
}

// 9.7: they turn lines' numbers: by as many as there are lines ahead.
func TestEmptyLinesTurnLinesNumbers(t *testing.T) {
	var m oracle.Mixer
	for range 8000 {
		s := spoilt(&m, layNet(samples.MixedNet(&m)))
		n, e, line := ReadNet(s)
		if e == api.OK {
			expectNet(t, "\n# 1\n \t\n"+s, n)
		} else {
			expectNoNet(t, "\n# 1\n \t\n"+s, e, line+3)
		}
		if t.Failed() {
			return
		}
	}
}

// 9.8: of two texts with values in order the numbers are in that order.
func TestNumbersAreInOrder(t *testing.T) {
	var m oracle.Mixer
	type read struct {
		s string
		v *big.Rat
		a float64
	}
	for range 60 {
		// Texts of values that are near each other, around a number or the middle between two.
		place := m.Below(oracle.Ends())
		v := oracle.Exact(oracle.NumberAt(place))
		if m.Below(2) == 0 {
			v = middle(v, oracle.Exact(oracle.NumberAt(place+1)))
		}
		texts := around(v)
		for range 20 {
			s := withPower(v.FloatString(1 + m.Below(1050)))
			texts = append(texts, s, s[:len(s)-1]+strconv.Itoa(m.Below(10)))
		}
		var all []read
		for _, s := range texts {
			for _, s := range []string{s, "-" + s} {
				if a, ok := Number(s); ok {
					all = append(all, read{s, exactOf(s), a})
				}
			}
		}
		slices.SortFunc(all, func(x, y read) int { return x.v.Cmp(y.v) })
		for i := range len(all) - 1 {
			x, y := all[i], all[i+1]
			if x.a > y.a || x.v.Cmp(y.v) == 0 && x.a != y.a {
				t.Fatalf("%s is %x, %s is %x", x.s, x.a, y.s, y.a)
			}
		}
	}
}

// rewritten are texts of the same value and sign as one in decimal or in hexadecimal digits.
func rewritten(m *oracle.Mixer, s string) []string {
	sign, s, prefix, mark, step := "", s, "", "e", 1
	if strings.HasPrefix(s, "-") {
		sign, s = "-", s[1:]
	}
	if strings.HasPrefix(s, "0x") {
		prefix, s, mark, step = "0x", s[2:], "p", 4
	}
	digits, rest, _ := strings.Cut(s, mark)
	power, _ := strconv.Atoi(rest)
	whole, fraction, _ := strings.Cut(digits, ".")
	put := func(whole, fraction string, power int) string {
		if fraction != "" {
			whole += "." + fraction
		}
		return sign + prefix + whole + mark + strconv.Itoa(power)
	}
	more := m.Below(40)
	l := []string{
		put(noughts(more)+whole, fraction, power),
		put(whole+noughts(more), "", power-step*more),
		put(whole, fraction+noughts(more), power),
		put("0", noughts(more)+whole+fraction, power+step*(more+len(whole))),
		put(whole+fraction, "", power-step*len(fraction)),
		put(whole[:1], whole[1:]+fraction, power+step*(len(whole)-1)),
	}
	if fraction != "" {
		l[1] = put(whole+fraction+noughts(more), "0", power-step*(more+len(fraction)))
	}
	return l
}

// 9.8: noughts ahead, noughts behind, and a power written otherwise turn nothing.
func TestRewrittenNumbers(t *testing.T) {
	var m oracle.Mixer
	compared := 0
	for range 20000 {
		s := mixedNumeral(&m)
		a, ok := Number(s)
		for _, other := range rewritten(&m, s) {
			if !hasForm(other) || !hasForm(s) {
				continue
			}
			compared++
			if ok {
				expectNumber(t, other, a)
			} else {
				expectNoNumber(t, other)
			}
		}
		if t.Failed() {
			t.Fatalf("%s is %x %v", s, a, ok)
		}
	}
	if compared < 60000 {
		t.Errorf("%d were compared only", compared)
	}
	for _, s := range []string{"1e2", "1e02", "1e002", "1e0002", "1e+2", "1e+0002", "100", "100.0", "0100", "10e1", "1000e-1", "0x64p0", "0x32p1", "0x6.4p4", "0x6.4p+0004", "0x0640p-4"} {
		expectNumber(t, s, 100)
	}
}

// anyText is bytes that look like none in particular, or words in any order.
func anyText(m *oracle.Mixer) string {
	var b strings.Builder
	for range m.Below(40) {
		switch m.Below(4) {
		case 0:
			b.WriteByte(byte(m.Word()))
		case 1:
			b.WriteByte(" \t\n#0159-+.epxaz"[m.Below(16)])
		default:
			b.WriteString(oddWord(m) + []string{" ", "\n"}[m.Below(2)])
		}
	}
	return b.String()
}

// 9.9: whatever is handed in, every call ends, and tells nothing beside an error.
func TestAnyInputs(t *testing.T) {
	var m oracle.Mixer
	for range 60000 {
		s := anyText(&m)
		if n, e, line := ReadNet(s); e != api.OK && !samples.SameNet(n, api.Net{}) || (e == api.OK) != (line == 0) || line > strings.Count(s, "\n")+2 {
			t.Fatalf("ReadNet(%q): %+v %v %d", s, n, e, line)
		}
		if p, e, line := ReadProp(s); e != api.OK && !samples.SameProp(p, api.Prop{}) || (e == api.OK) != (line == 0) || line > strings.Count(s, "\n")+2 {
			t.Fatalf("ReadProp(%q): %+v %v %d", s, p, e, line)
		}
		expectTwin(t, s)
		if n, ok := Whole(s); ok && strconv.Itoa(n) != s || !ok && n != 0 {
			t.Fatalf("Whole(%q): %d %v", s, n, ok)
		}
		n := samples.AnyNet(&m)
		e, _ := model.Check(n)
		if c, f := PrintNet(n); f != e || (f == api.OK) != (c != "") {
			t.Fatalf("PrintNet(%+v): %q %v, not %v", n, c, f, e)
		}
		p := samples.AnyProp(&m)
		if c, f := PrintProp(p); (f == api.OK) != (c != "") || f == api.OK && c != layProp(p) || f != api.OK && f != api.ErrNumber {
			t.Fatalf("PrintProp(%+v): %q %v", p, c, f)
		}
		if t.Failed() {
			return
		}
	}
}

// 9.9: what is handed in stays as it was, and the room behind it too.
func TestPrintersChangeNothing(t *testing.T) {
	n, p := samples.RoomyNet(), samples.RoomyProp()
	before, asked := samples.WholeNet(n), samples.WholeProp(p)
	same := func() bool {
		return samples.SameNet(samples.WholeNet(n), before) && samples.SameProp(samples.WholeProp(p), asked)
	}
	for range 2 {
		expectNetText(t, n, layNet(n))
		expectPropText(t, p, layProp(p))
		if !same() {
			t.Error("what is printed was changed")
		}
	}
	n.Names[2], p.Claims[2][0] = n.Names[0], oracle.NoNumbers()[1]
	before, asked = samples.WholeNet(n), samples.WholeProp(p)
	expectNoNetText(t, n, api.ErrName)
	expectNoPropText(t, p, api.ErrNumber)
	if !same() {
		t.Error("what is refused was changed")
	}
}

// within tells whether a text's bytes lie in the memory of another's.
func within(s, whole string) bool {
	at, from := uintptr(unsafe.Pointer(unsafe.StringData(s))), uintptr(unsafe.Pointer(unsafe.StringData(whole)))
	return at >= from && at < from+uintptr(len(whole))
}

// 9.9: names are memory of their own, not a part of the text.
func TestNamesAreNewMemory(t *testing.T) {
	s := "net 1 1 3\nnames alpha b gamma\nend"
	n, _, _ := ReadNet(s)
	if len(n.Names) != 3 {
		t.Fatalf("%q", n.Names)
	}
	for _, name := range n.Names {
		if within(name, s) {
			t.Errorf("the name %s lies in the text", name)
		}
	}
}

// 9.9: no two lists of an answer share any, and none shares with another answer's.
func TestListsOfNetworksAreApart(t *testing.T) {
	s := layNet(samples.Chain())
	read := func() api.Net {
		n, _, _ := ReadNet(s)
		return n
	}
	for i := range 2 * len(samples.Chain().Layers) {
		first, second, want := read(), read(), samples.Chain()
		numbers, pairs := samples.Lists(first)
		wantNumbers, wantPairs := samples.Lists(want)
		samples.Scribble(numbers[i], -99)
		samples.Scribble(pairs[i], -99i)
		for k := range numbers {
			if k != i && (!samples.SameNumbers(numbers[k], wantNumbers[k]) || !slices.EqualFunc(pairs[k], wantPairs[k], samples.SameComplex)) {
				t.Errorf("the list %d was written into, and %d changed", i, k)
			}
		}
		samples.Scribble(first.Names, "-")
		samples.Scribble(first.Layers, api.Layer{})
		if !samples.SameNet(second, want) || !samples.SameNet(read(), want) {
			t.Error("an answer was written into, and another changed")
		}
	}
}

// 9.9
func TestListsOfQuestionsAreApart(t *testing.T) {
	s := layProp(samples.Question())
	read := func() api.Prop {
		p, _, _ := ReadProp(s)
		return p
	}
	all := func(p api.Prop) [][]float64 { return slices.Concat([][]float64{p.C}, p.G, p.Claims) }
	for i := range all(read()) {
		first, second := read(), read()
		lists := all(first)
		samples.Scribble(lists[i], -99)
		for k, l := range lists {
			if k != i && !samples.SameNumbers(l, all(samples.Question())[k]) {
				t.Errorf("the list %d was written into, and %d changed", i, k)
			}
		}
		samples.Scribble(first.G, nil)
		if len(first.Claims[2]) != 5 {
			t.Error("the columns were written into, and the claims changed")
		}
		samples.Scribble(first.Claims, nil)
		if !samples.SameProp(second, samples.Question()) || !samples.SameProp(read(), samples.Question()) {
			t.Error("an answer was written into, and another changed")
		}
	}
}
