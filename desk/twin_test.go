package desk

import (
	"encoding/hex"
	"fmt"
	"math/big"
	"regexp"
	"strconv"
	"strings"
	"testing"
	"unicode/utf8"

	"ambit/api"
	"ambit/audit"
	"ambit/cases"
	"ambit/code"
	"ambit/flow"
	"ambit/margin"
	"ambit/model"
	"ambit/oracle"
	"ambit/point"
	"ambit/samples"
	"ambit/shadow"
	"ambit/text"
	"ambit/verify"
	"ambit/walk"
	"ambit/zono"
)

// A twin is a second desk, by the chapter's words: lines are taken apart by patterns.
type twin struct {
	net  []api.Net
	prop []api.Prop
}

// The patterns of 22.3.
const (
	literalForm = `"(?:[^"\\\x00-\x1f]|\\[n"\\])*"`
	decimalForm = `-?[0-9]+(?:\.[0-9]+)?(?:e[+-]?[0-9]{1,4})?`
	hexForm     = `-?0x[0-9a-f]+(?:\.[0-9a-f]+)?p[+-]?[0-9]{1,4}`
	wordForm    = `(?:` + literalForm + `|[a-z][a-z0-9]*|` + hexForm + `|` + decimalForm + `)`
)

var (
	lineForm  = regexp.MustCompile(`(?s)^[ \t]*(?:(` + wordForm + `(?:[ \t]+` + wordForm + `)*)(?:[ \t]+(?:#.*)?)?|(?:#.*)?)$`)
	wordsForm = regexp.MustCompile(wordForm)
	argForms  = map[byte]*regexp.Regexp{
		'T': regexp.MustCompile(`^` + literalForm + `$`),
		'H': regexp.MustCompile(`^"(?:[0-9a-f][0-9a-f])*"$`),
		'W': regexp.MustCompile(`^(?:0|-?[1-9][0-9]*)$`),
		'N': regexp.MustCompile(`^(?:` + decimalForm + `|` + hexForm + `)$`),
	}
)

// wantForms are the table's: what the words behind a name are (a * stands for any count of the last), and what is needed: nothing, a network, or both.
func wantForms() map[string][2]string {
	return map[string][2]string{
		"net": {"T", ""}, "prop": {"T", "n"}, "netbytes": {"", "n"}, "propbytes": {"", "np"}, "netof": {"H", ""}, "propof": {"H", "n"}, "shape": {"W", "n"},
		"verify": {"W", "np"}, "radius": {"W", "np"}, "bounds": {"W", "np"}, "columns": {"W", "np"}, "margin": {"", "np"}, "trial": {"W*", "np"},
		"walk": {"N*", "n"}, "exact": {"N*", "n"}, "shadow": {"WWW", "np"}, "account": {"", "np"}, "check": {"H", "np"}, "forget": {"", ""},
	}
}

// wantFits tells whether a word is what the form's letter says.
func wantFits(letter byte, w string) bool {
	if !argForms[letter].MatchString(w) {
		return false
	}
	switch letter {
	case 'W':
		n, _ := new(big.Int).SetString(w, 10)
		return n.IsInt64()
	case 'N':
		_, err := strconv.ParseFloat(w, 64)
		return err == nil && len(w) <= 1100
	}
	return true
}

// wantWords are a line's words as they stand in it, by 22.3.
func wantWords(line string) ([]string, bool) {
	parts := lineForm.FindStringSubmatch(line)
	if parts == nil || !utf8.ValidString(line) {
		return nil, false
	}
	return wordsForm.FindAllString(parts[1], -1), true
}

// do answers a line by the words of 22.4.
func (x *twin) do(line string) string {
	if len(line) > 65536 {
		return "error 222"
	}
	words, ok := wantWords(line)
	switch {
	case !ok:
		return "error 220"
	case len(words) == 0:
		return ""
	}
	f, ok := wantForms()[words[0]]
	if !ok {
		return "error 220"
	}
	letters, rest := f[0], words[1:]
	if strings.HasSuffix(letters, "*") {
		letters = strings.Repeat(letters[:1], len(rest))
	}
	if len(letters) != len(rest) {
		return "error 220"
	}
	for i, w := range rest {
		if !wantFits(letters[i], w) {
			return "error 220"
		}
	}
	if strings.Contains(f[1], "n") && len(x.net) == 0 || strings.Contains(f[1], "p") && len(x.prop) == 0 {
		return "error 221"
	}
	if len(rest) == 1 && rest[0][0] == '"' {
		return x.doLiteral(words[0], strings.NewReplacer(`\n`, "\n", `\"`, `"`, `\\`, `\`).Replace(rest[0][1:len(rest[0])-1]))
	}
	return x.doRest(words[0], rest)
}

// doLiteral does the commands that have a literal behind them.
func (x *twin) doLiteral(name, s string) string {
	b, _ := hex.DecodeString(s)
	var n api.Net
	var p api.Prop
	var e api.Errno
	var at int
	switch name {
	case "net":
		n, e, at = text.ReadNet(s)
	case "netof":
		n, e, at = code.DecodeNet(b)
	case "prop":
		p, e, at = text.ReadProp(s)
	case "propof":
		p, e, at = code.DecodeProp(b)
	case "check":
		net, prop := x.bytes()
		a, e := audit.Check(net, prop, b)
		return told(e, num(a))
	}
	if name[0] == 'p' && e == api.OK {
		in, out := samples.Widths(x.net[0])
		e, at = model.CheckProp(p, in, out)
	}
	switch {
	case e != api.OK:
		return fmt.Sprintf("error %d %d", int(e), at)
	case name[0] == 'n':
		x.net, x.prop = []api.Net{n}, nil
	default:
		x.prop = []api.Prop{p}
	}
	return "ok"
}

// bytes are those of both.
func (x *twin) bytes() (net, prop []byte) {
	net, _, _ = code.EncodeNet(x.net[0])
	prop, _, _ = code.EncodeProp(x.prop[0])
	return net, prop
}

// told is an answer: an error's, or ok and what stands behind it.
func told(e api.Errno, behind ...any) string {
	if e != api.OK {
		return fmt.Sprint("error ", int(e))
	}
	return strings.TrimSpace(fmt.Sprintln(append([]any{"ok"}, behind...)...))
}

// wantVerdict is a verdict in words, by the table.
func wantVerdict(v api.Verdict) string {
	switch v.Kind {
	case api.Robust:
		return fmt.Sprint("robust ", num(v.Margin), " ", v.Looked)
	case api.Falsified:
		return strings.TrimSpace(fmt.Sprint("falsified ", v.Claim, " ", num(v.Margin), " ", v.Looked, " ", strings.Trim(fmt.Sprint(v.E), "[]")))
	case api.Unknown:
		return fmt.Sprint("unknown ", v.Open, " ", v.Bad, " ", v.Looked)
	}
	return "no verdict"
}

// doRest does the commands that have none.
func (x *twin) doRest(name string, rest []string) string {
	var l []float64
	var w []int
	for _, s := range rest {
		a, _ := strconv.ParseFloat(s, 64)
		i, _ := strconv.Atoi(s)
		l, w = append(l, a), append(w, i)
	}
	switch name {
	case "forget":
		x.net, x.prop = nil, nil
		return "ok"
	case "netbytes":
		b, _, _ := code.EncodeNet(x.net[0])
		return "ok " + hex.EncodeToString(b)
	case "shape":
		shapes, _, _ := model.Shapes(x.net[0])
		if w[0] < 0 || w[0] >= len(shapes) {
			return "error 1"
		}
		s := shapes[w[0]]
		return told(api.OK, s.C, s.H, s.W)
	case "walk":
		spans, e, _ := walk.Eval(x.net[0], walk.Points(l))
		return toldSpans(e, spans)
	case "exact":
		return x.exact(l)
	}
	return x.doBoth(name, w)
}

// toldSpans is what bounds and walk tell.
func toldSpans(e api.Errno, spans []api.Span) string {
	var all []any
	for _, s := range spans {
		if s.Bad {
			return "ok bad"
		}
		all = append(all, num(s.Lo), num(s.Hi))
	}
	return told(e, all...)
}

func (x *twin) exact(l []float64) string {
	var at []api.Dyad
	for _, a := range l {
		d, _ := point.Of(a)
		at = append(at, d)
	}
	y, e, _ := point.Eval(x.net[0], at)
	var all []any
	for _, d := range y {
		for _, dir := range []api.Dir{api.Down, api.Up} {
			if a, ok := point.Round(dir, d); ok {
				all = append(all, num(a))
			} else {
				all = append(all, "bad")
			}
		}
	}
	return told(e, all...)
}

// doBoth does the commands that need both, and have whole numbers alone.
func (x *twin) doBoth(name string, w []int) string {
	n, p := x.net[0], x.prop[0]
	cube := samples.Cube(len(p.G))
	switch name {
	case "propbytes":
		_, b := x.bytes()
		return "ok " + hex.EncodeToString(b)
	case "account":
		b, e := audit.Account(x.bytes())
		return told(e, hex.EncodeToString(b))
	case "verify":
		v, e := verify.Judge(n, p, w[0])
		return told(e, wantVerdict(v))
	case "radius":
		i, v, e := verify.Radius(n, p, w[0], 5)
		return told(e, i, wantVerdict(v))
	case "trial":
		if claim, gap, ok := margin.Trial(n, p, cube, w); ok {
			return told(api.OK, claim, num(gap))
		}
		return "ok none"
	}
	trace, _ := flow.Push(n, p, cube, 3)
	if name == "margin" {
		return toldMargins(trace.Z[len(n.Layers)], cases.Claims(n, p))
	}
	if w[0] < 0 || w[0] > len(n.Layers) {
		return "error 1"
	}
	return toldZono(name, trace.Z[w[0]], w[1:])
}

func toldMargins(z api.Zono, claims [][]float64) string {
	if _, _, ok := margin.Worst(z, claims); !ok {
		return "ok bad"
	}
	var all []any
	for _, c := range claims {
		a, _ := margin.Margin(z, c)
		all = append(all, num(a))
	}
	return told(api.OK, all...)
}

func toldZono(name string, z api.Zono, w []int) string {
	var all []any
	switch {
	case name == "shadow":
		corners, far, e := shadow.Polygon(z, w[0], w[1])
		all = append(all, num(far))
		for _, c := range corners {
			all = append(all, num(real(c)), num(imag(c)))
		}
		return told(e, all...)
	case z.Bad:
		return "ok bad"
	case name == "bounds":
		return toldSpans(api.OK, zono.Bounds(z))
	}
	for _, id := range z.Ids {
		all = append(all, id)
	}
	return told(api.OK, all...)
}

// A known is what lines about a network and a question are made of.
type known struct {
	n       api.Net
	p       api.Prop
	laying  []string // net, prop, netof, propof
	others  []string // questions and networks that may not be
	account []byte
}

func knownOf(t *testing.T, n api.Net, p api.Prop) known {
	t.Helper()
	net, prop := linesFor(t, n, p)
	a, b := encoded(t, n, p)
	account, _ := audit.Account(a, b)
	k := known{n: n, p: p, laying: []string{net, prop, of("netof", a), of("propof", b)}, account: account}
	q := p
	q.K = 9
	wrong, _ := text.PrintProp(q)
	k.others = []string{"prop " + literalOf(wrong), goodLine, furtherLine, of("propof", b[1:]), of("netof", a[:len(a)-1]), `net "net 1 1 1\nend"`, `net "net 1 1 1"`, `prop "prop"`}
	return k
}

// few are words that are made one by one, about so many as are wanted.
func few(m *oracle.Mixer, count int, make func() string) string {
	if m.Below(6) == 0 {
		count += m.Below(3) - 1
	}
	var all []string
	for range count {
		all = append(all, make())
	}
	return strings.Join(all, []string{" ", "\t", "  "}[m.Below(3)])
}

// mixedNumber is one in some form of writing.
func mixedNumber(m *oracle.Mixer) string {
	a := m.Number(m.Below(8) - 4)
	if m.Below(6) == 0 {
		a = samples.MixedNumber(m)
	}
	switch m.Below(4) {
	case 0:
		return num(a)
	case 1:
		return strconv.FormatFloat(a, 'f', -1, 64)
	case 2:
		return strconv.Itoa(m.Below(9) - 4)
	}
	return strconv.FormatFloat(a, 'e', m.Below(20), 64)
}

// asking is a line that asks something.
func asking(m *oracle.Mixer, k known) string {
	in, out := samples.Widths(k.n)
	output := func() string { return strconv.Itoa(m.Below(len(k.n.Layers)+3) - 1) }
	switch name := names()[m.Below(19)]; name {
	case "shape", "bounds", "columns":
		return name + " " + few(m, 1, output)
	case "verify":
		return name + " " + few(m, 1, func() string { return strconv.Itoa(m.Below(19) - 1) })
	case "radius":
		return name + " " + few(m, 1, func() string { return strconv.Itoa([]int{-1, 0, 1, 2, 21}[m.Below(5)]) })
	case "trial":
		return name + " " + few(m, len(k.p.G), func() string { return strconv.Itoa([]int{-1, -1, -1, 0, 1, 1, 1, 2}[m.Below(8)]) })
	case "walk", "exact":
		return name + " " + few(m, in, func() string { return mixedNumber(m) })
	case "shadow":
		return name + " " + few(m, 1, output) + " " + few(m, 2, func() string { return strconv.Itoa(m.Below(out + 1)) })
	case "check":
		b := append([]byte{}, k.account...)
		if len(b) > 0 && m.Below(2) == 0 {
			b[m.Below(len(b))]++
		}
		return of(name, b)
	case "forget":
		if m.Below(3) > 0 {
			return "margin"
		}
		return name
	case "net", "prop":
		return name + " " + literalOf(k.others[m.Below(len(k.others))])
	case "netof", "propof":
		return of(name, []byte{'A', 'M', 'B', "NP"[m.Below(2)], byte(m.Below(2)), byte(m.Below(3)), byte(m.Below(3)), byte(m.Below(3))}[:m.Below(9)])
	default:
		return name
	}
}

// mixedLines are some lines about a network and a question; mostly both are laid first.
func mixedLines(m *oracle.Mixer, k known) []string {
	lines := []string{k.laying[2*m.Below(2)], k.laying[1+2*m.Below(2)]}
	lines = lines[m.Below(5)/4 : 2-m.Below(5)/4]
	for range m.Below(16) {
		lines = append(lines, mixedLine(m, k))
	}
	return lines
}

// mixedLine is a line, mostly one that may be; none has a newline.
func mixedLine(m *oracle.Mixer, k known) string {
	line := asking(m, k)
	switch m.Below(16) {
	case 0:
		line = k.laying[m.Below(4)]
	case 1:
		line = k.others[m.Below(len(k.others))]
	case 2, 3, 4:
		return spoilt(m, line)
	}
	switch m.Below(12) {
	case 0:
		return line + " # " + spoilt(m, line)
	case 1:
		return "\t " + line + " \t"
	case 2:
		return ""
	}
	return line
}

// spoilt is a line in which something or other is changed.
func spoilt(m *oracle.Mixer, line string) string {
	odd := []string{`"`, `\`, `#`, ` `, "\t", "0", "1", "-", ".", "e", "x", "A", "\x00", "\x1f", "\x80", "é", `\n`, `""`, " 0", " 1.5", ` "a"`}[m.Below(21)]
	at := m.Below(len(line) + 1)
	if m.Below(3) == 0 {
		at = len(line)
	}
	switch m.Below(3) {
	case 0:
		return line[:at] + odd + line[at:]
	case 1:
		return line[:at] + odd + line[min(at+1, len(line)):]
	}
	return line[:at] + line[min(at+1, len(line)):]
}

// 22.3 to 22.5: what a desk answers is what the chapter's words do, line by line.
func TestDeskByTheWords(t *testing.T) {
	t.Parallel()
	var m oracle.Mixer
	seen := oracle.Tally{}
	for range 2500 {
		n, p := cases.Mixed(&m)
		p.Looks = 1 + m.Below(4)
		k := knownOf(t, n, p)
		x, y := New(), &twin{}
		for _, line := range mixedLines(&m, k) {
			want := y.do(line)
			if got := x.Do(line); got != want {
				t.Fatalf("%s: %s, not %s", shown(line), shown(got), shown(want))
			}
			note(seen, line, want)
		}
	}
	for _, name := range names() {
		seen.Expect(t, 20, name+" ok")
		seen.Expect(t, 3, name+" error 220")
		if !strings.Contains("net netof forget", name) {
			seen.Expect(t, 20, name+" error 221")
		}
	}
	seen.Expect(t, 10, "shape error 1", "verify error 1", "radius error 1", "bounds error 1", "columns error 1", "shadow error 1", "shadow error 100", "walk error 63", "exact error 63", "exact error 61", "account error 202", "check error 16", "prop error 69", "prop error 63", "net error 90", "net error 92", "netof error 80", "netof error 10", "propof error 80")
	seen.Expect(t, 10, "verify ok robust", "verify ok falsified", "verify ok unknown", "radius ok -1", "trial ok none", "trial ok 0", "bounds ok bad", "columns ok bad", "margin ok bad", "walk ok bad", "an empty answer")
}

// note counts how a line was answered.
func note(seen oracle.Tally, line, answer string) {
	seen.Note("an empty answer", answer == "")
	words := strings.Fields(line)
	if answer == "" || len(words) == 0 {
		return
	}
	told := strings.Fields(answer)
	seen.Note(words[0]+" "+told[0], true)
	if len(told) > 1 {
		seen.Note(words[0]+" "+told[0]+" "+told[1], true)
	}
}
