package text

import (
	"math/big"
	"slices"
	"strings"
	"testing"
	"unicode/utf8"

	"ambit/api"
	"ambit/model"
	"ambit/oracle"
	"ambit/samples"
)

// A twin reads a text by the document's words once more: it goes by which words may begin the next line, and keeps the first error.
type twin struct {
	may    []string // the words that may begin the next line
	whole  []int    // the whole numbers of the line in hand
	number []float64
	heads  []int // the lines of `net` and of the layers
	net    api.Net
	prop   api.Prop
}

// twinLines are the lines of a text, remarks cut off; or an error and its line.
func twinLines(s string) ([]string, api.Errno, int) {
	if len(s) > 1048576 {
		return nil, api.ErrLong, 0
	}
	for i := 0; i < len(s); {
		r, width := utf8.DecodeRuneInString(s[i:])
		if r == utf8.RuneError && width == 1 {
			return nil, api.ErrUTF, 1 + strings.Count(s[:i], "\n")
		}
		i += width
	}
	lines := strings.Split(s, "\n")
	if lines[len(lines)-1] == "" {
		lines = lines[:len(lines)-1]
	}
	for i, l := range lines {
		lines[i], _, _ = strings.Cut(l, "#")
	}
	return lines, api.OK, 0
}

// read reads a text line by line; first is the word that its first line begins with.
func (w *twin) read(s, first string) (api.Errno, int) {
	lines, e, at := twinLines(s)
	if e != api.OK {
		return e, at
	}
	w.may = []string{first}
	for i, l := range lines {
		all := strings.FieldsFunc(l, func(r rune) bool { return r == ' ' || r == '\t' })
		if len(all) == 0 {
			continue
		}
		if !slices.Contains(w.may, all[0]) {
			return api.ErrLine, i + 1
		}
		if !w.words(wordsBehind(all[0]), all[1:]) {
			return api.ErrWord, i + 1
		}
		w.line(all[0], all[1:], i+1)
	}
	if w.may != nil {
		return api.ErrEnd, len(lines) + 1
	}
	return api.OK, 0
}

// words reads the words behind a head; false, if they are not what must stand there.
func (w *twin) words(what, all []string) bool {
	w.whole, w.number = nil, nil
	if len(what) == 1 {
		switch what[0] {
		case "names":
			return len(all) > 0
		case "pairs":
			return len(all)%2 == 0 && w.numbers(all)
		case "numbers":
			return w.numbers(all)
		}
	}
	if len(all) != len(what) {
		return false
	}
	for i, name := range what {
		if name == "A" {
			if !w.numbers(all[i:]) {
				return false
			}
			continue
		}
		v, ok := new(big.Int).SetString(all[i], 10)
		if !ok || v.String() != all[i] || !v.IsInt64() {
			return false
		}
		w.whole = append(w.whole, int(v.Int64()))
	}
	return true
}

func (w *twin) numbers(all []string) bool {
	for _, s := range all {
		a, ok := twinNumber(s)
		if !ok {
			return false
		}
		w.number = append(w.number, a)
	}
	return true
}

func (w *twin) complexNumbers() []complex128 {
	var l []complex128
	for i := 1; i < len(w.number); i += 2 {
		l = append(l, api.Complex(api.Bits(w.number[i-1]), api.Bits(w.number[i])))
	}
	return l
}

// line keeps what a line says, and which lines may follow.
func (w *twin) line(head string, names []string, at int) {
	next := append(layerWords(), "names", "end")
	if kind := 1 + slices.Index(layerWords(), head); kind > 0 {
		w.heads = append(w.heads, at)
		w.layer(head, kind)
		switch head {
		case "dense", "conv", "scale":
			next = []string{"w"}
		case "turn":
			next = []string{"z"}
		}
		w.may = next
		return
	}
	switch head {
	case "net":
		w.heads = append(w.heads, at)
		w.net.In = api.Shape{C: w.whole[0], H: w.whole[1], W: w.whole[2]}
	case "w":
		w.last().W, next = w.number, []string{"b"}
	case "b":
		w.last().B = w.number
	case "z":
		w.last().Z, next = w.complexNumbers(), []string{"zb"}
	case "zb":
		w.last().ZB = w.complexNumbers()
	case "names":
		w.net.Names, next = names, []string{"end"}
	case "end":
		next = nil
	default:
		next = w.propLine(head)
	}
	w.may = next
}

// propLine is likewise for a question.
func (w *twin) propLine(head string) []string {
	p := &w.prop
	switch head {
	case "prop":
		return []string{"c"}
	case "c":
		p.C = w.number
		return []string{"g", "target"}
	case "g":
		p.G = append(p.G, w.number)
		return []string{"g", "target"}
	case "target":
		p.Target = w.whole[0]
		return []string{"claim", "k"}
	case "claim":
		p.Claims = append(p.Claims, w.number)
		return []string{"claim", "k"}
	case "k":
		p.K = w.whole[0]
		return []string{"depth"}
	case "depth":
		p.Depth = w.whole[0]
		return []string{"looks"}
	}
	p.Looks = w.whole[0]
	return []string{"end"}
}

func (w *twin) last() *api.Layer { return &w.net.Layers[len(w.net.Layers)-1] }

func (w *twin) layer(head string, kind int) {
	l := api.Layer{Kind: kind}
	for i, name := range wordsBehind(head) {
		if name == "A" {
			l.A = w.number[0]
		} else {
			*fieldNamed(&l, name) = w.whole[i]
		}
	}
	w.net.Layers = append(w.net.Layers, l)
}

// twinNet is what ReadNet must tell.
func twinNet(s string) (api.Net, api.Errno, int) {
	var w twin
	if e, at := w.read(s, "net"); e != api.OK {
		return api.Net{}, e, at
	}
	if e, m := model.Check(w.net); e != api.OK {
		return api.Net{}, e, w.heads[m]
	}
	return w.net, api.OK, 0
}

// twinProp is what ReadProp must tell.
func twinProp(s string) (api.Prop, api.Errno, int) {
	var w twin
	if e, at := w.read(s, "prop"); e != api.OK {
		return api.Prop{}, e, at
	}
	return w.prop, api.OK, 0
}

// oddWord is a word that often may not stand where it is put.
func oddWord(m *oracle.Mixer) string {
	odd := []string{"0", "1", "2", "-1", "257", "1e400", "0.5", "-0", "07", "+1", "9223372036854775808", "9223372036854775807", "0x1p+0", "-0x0p+0", "1.5", "x", "é", "Net", "a\u00a0b", "a\rb", "\ufffd", "\xff", "\xe2\x82", "a#b", "#", "\n", "\t", "a\x7fb", "1e-400", ""}
	if m.Below(3) == 0 {
		return vocabulary()[m.Below(len(vocabulary()))]
	}
	return odd[m.Below(len(odd))]
}

// odder is a word that is changed a little.
func odder(m *oracle.Mixer, s string) string {
	if s == "" || m.Below(2) == 0 {
		return oddWord(m)
	}
	at := m.Below(len(s))
	switch m.Below(3) {
	case 0:
		return s[:at] + s[at+1:]
	case 1:
		return s[:at] + oddWord(m) + s[at:]
	}
	const others = " \t\n#0159-+.epx\x80azw"
	return s[:at] + others[m.Below(len(others)):][:1] + s[at+1:]
}

// spoilt is a text in which something was changed: a line, a word, a byte.
func spoilt(m *oracle.Mixer, s string) string {
	lines := strings.Split(strings.TrimSuffix(s, "\n"), "\n")
	for range 1 + m.Below(2) {
		i := m.Below(len(lines))
		switch m.Below(8) {
		case 0:
			lines = slices.Delete(lines, i, i+1)
		case 1:
			lines = slices.Insert(lines, i, lines[m.Below(len(lines))])
		case 2:
			lines = slices.Insert(lines, m.Below(len(lines)+1), oddWord(m))
		case 3:
			lines = lines[:i]
		default:
			all := strings.Split(lines[i], " ")
			k := m.Below(min(len(all), 4))
			switch m.Below(4) {
			case 0:
				all = slices.Delete(all, k, k+1)
			case 1:
				all = slices.Insert(all, m.Below(len(all)+1), oddWord(m))
			default:
				all[k] = odder(m, all[k])
			}
			lines[i] = strings.Join(all, " ")
		}
		if len(lines) == 0 {
			break
		}
	}
	return strings.Join(lines, "\n") + []string{"", "\n", "\n\n", " ", "\n#"}[m.Below(5)]
}

// loosened is a text with other blanks, tabs, empty lines and remarks, which say nothing.
func loosened(m *oracle.Mixer, s string) string {
	var b strings.Builder
	gap := func(least int) {
		for range least + m.Below(2)*m.Below(3) {
			b.WriteByte(" \t"[m.Below(2)])
		}
	}
	for _, l := range strings.Split(strings.TrimSuffix(s, "\n"), "\n") {
		for range m.Below(3) * m.Below(2) {
			gap(0)
			b.WriteString([]string{"", "# end", "#\xc2\xa0é", "##"}[m.Below(4)] + "\n")
		}
		gap(0)
		for i, word := range strings.Split(l, " ") {
			if i > 0 {
				gap(1)
			}
			b.WriteString(word)
		}
		gap(0)
		b.WriteString([]string{"", "", "#", "# 1 2", "#\ufffd#"}[m.Below(5)] + "\n")
	}
	if m.Below(2) == 0 {
		return strings.TrimSuffix(b.String(), "\n")
	}
	return b.String()
}

// 9.5: whatever comes, what is told is what the document says.
func TestTwinOfNetworks(t *testing.T) {
	var m oracle.Mixer
	seen := map[api.Errno]int{}
	for range 60000 {
		s := spoilt(&m, layNet(samples.MixedNet(&m)))
		want, e, line := twinNet(s)
		if got, f, at := ReadNet(s); f != e || at != line || !samples.SameNet(got, want) {
			t.Fatalf("ReadNet(%q): %+v %v %d, not %+v %v %d", s, got, f, at, want, e, line)
		}
		seen[e]++
	}
	for _, e := range []api.Errno{api.OK, api.ErrUTF, api.ErrShape, api.ErrField, api.ErrCount, api.ErrFrom, api.ErrName, api.ErrLine, api.ErrWord, api.ErrEnd} {
		if seen[e] < 20 {
			t.Errorf("%v came up %d times only", e, seen[e])
		}
	}
}

// 9.6: likewise of questions.
func TestTwinOfQuestions(t *testing.T) {
	var m oracle.Mixer
	seen := map[api.Errno]int{}
	for range 60000 {
		s := spoilt(&m, layProp(samples.MixedProp(&m)))
		want, e, line := twinProp(s)
		if got, f, at := ReadProp(s); f != e || at != line || !samples.SameProp(got, want) {
			t.Fatalf("ReadProp(%q): %+v %v %d, not %+v %v %d", s, got, f, at, want, e, line)
		}
		seen[e]++
	}
	for _, e := range []api.Errno{api.OK, api.ErrUTF, api.ErrLine, api.ErrWord, api.ErrEnd} {
		if seen[e] < 20 {
			t.Errorf("%v came up %d times only", e, seen[e])
		}
	}
}
