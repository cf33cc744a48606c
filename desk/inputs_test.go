package desk

import (
	"encoding/hex"
	"fmt"
	"math"
	"regexp"
	"strconv"
	"strings"
	"testing"

	"ambit/api"
	"ambit/cases"
	"ambit/code"
	"ambit/samples"
	"ambit/text"
)

// The network and the question of the document's examples, as lines; the question with a further claim and without.
const (
	netLine     = `net "net 1 1 2\ndense 2\nw 1 1 1 -1\nb 0 0\nend"`
	goodLine    = `prop "prop\nc 0.5 0.25\ng 1 0\ntarget 0\nk 2\ndepth 0\nlooks 1\nend"`
	furtherLine = `prop "prop\nc 0.5 0.25\ng 1 0\ntarget 0\nclaim 1 0 0\nk 2\ndepth 0\nlooks 1\nend"`
)

// What the desk answers where a line is none, and where nothing is there.
const (
	noCommand = "error 220"
	nothing   = "error 221"
	tooLong   = "error 222"
)

func numbers(l ...float64) []float64 { return l }

func lists(l ...[]float64) [][]float64 { return l }

// netOf is a network of these layers over so many coordinates.
func netOf(width int, layers ...api.Layer) api.Net {
	return api.Net{In: samples.Line(width), Layers: layers}
}

// dense is a KDense with these numbers.
func dense(w, b []float64) api.Layer {
	return api.Layer{Kind: api.KDense, Out: len(b), W: w, B: b}
}

// kind is a layer that has nothing but its kind.
func kind(k int) api.Layer { return api.Layer{Kind: k} }

// literalOf is a literal that stands for a text.
func literalOf(s string) string {
	return `"` + strings.NewReplacer(`\`, `\\`, `"`, `\"`, "\n", `\n`).Replace(s) + `"`
}

// linesFor are the lines that lay a network and a question.
func linesFor(t *testing.T, n api.Net, p api.Prop) (net, prop string) {
	t.Helper()
	a, e := text.PrintNet(n)
	b, f := text.PrintProp(p)
	if e != api.OK || f != api.OK {
		t.Fatalf("%+v, %+v: %v %v", n, p, e, f)
	}
	return "net " + literalOf(a), "prop " + literalOf(b)
}

// encoded are the bytes of a network and a question.
func encoded(t *testing.T, n api.Net, p api.Prop) (net, prop []byte) {
	t.Helper()
	net, e, _ := code.EncodeNet(n)
	prop, f, _ := code.EncodeProp(p)
	if e != api.OK || f != api.OK {
		t.Fatalf("%+v, %+v: %v %v", n, p, e, f)
	}
	return net, prop
}

// of is a line of a command and some bytes.
func of(command string, b []byte) string { return command + ` "` + hexOf(b) + `"` }

// desks are one with nothing, one with the network of the examples, and one with both.
func desks(t *testing.T) (nothing, network, both *Desk) {
	t.Helper()
	nothing, network, both = New(), New(), New()
	does(t, network, netLine, "ok")
	does(t, both, netLine, "ok", goodLine, "ok")
	return nothing, network, both
}

// laid is a desk with a network and a question.
func laid(t *testing.T, n api.Net, p api.Prop) *Desk {
	t.Helper()
	x := New()
	net, prop := linesFor(t, n, p)
	does(t, x, net, "ok", prop, "ok")
	return x
}

// example is a desk with the network of the examples, and its question.
func example(t *testing.T, further bool) *Desk {
	t.Helper()
	n, p := cases.Example(further)
	return laid(t, n, p)
}

// shown is the beginning of a text.
func shown(s string) string {
	if len(s) > 300 {
		return fmt.Sprintf("%q .. (%d bytes)", s[:300], len(s))
	}
	return strconv.Quote(s)
}

// does holds a desk to answers: lines, and behind each of them what is told.
func does(t *testing.T, x *Desk, rows ...string) {
	t.Helper()
	for i := 0; i < len(rows); i += 2 {
		if got := x.Do(rows[i]); got != rows[i+1] {
			t.Errorf("%s: %s, not %s", shown(rows[i]), shown(got), shown(rows[i+1]))
		}
	}
}

// allAnswer holds a desk to one answer for all of some lines.
func allAnswer(t *testing.T, x *Desk, want string, lines ...string) {
	t.Helper()
	for _, line := range lines {
		does(t, x, line, want)
	}
}

// num is a number as an answer has it, by the library's own writing of hexadecimal numbers.
func num(a float64) string {
	return regexp.MustCompile(`p([+-])0(\d)$`).ReplaceAllString(strconv.FormatFloat(a, 'x', -1, 64), "p$1$2")
}

// nums are numbers as an answer has them.
func nums(l ...float64) string {
	var all []string
	for _, a := range l {
		all = append(all, num(a))
	}
	return strings.Join(all, " ")
}

// numberIn is the number that an answer's word stands for.
func numberIn(t *testing.T, word string) float64 {
	t.Helper()
	a, err := strconv.ParseFloat(word, 64)
	if err != nil || num(a) != word || math.IsInf(a, 0) {
		t.Fatalf("%q is no number of an answer", word)
	}
	return a
}

// state is what lies on a desk, as far as its answers tell.
func state(x *Desk) string { return x.Do("netbytes") + " and " + x.Do("propbytes") }

// names are those of all commands.
func names() []string {
	return strings.Fields("net prop netbytes propbytes netof propof shape verify radius bounds columns margin trial walk exact shadow account check forget")
}

// hexOf are bytes in hexadecimal digits, by the library.
func hexOf(b []byte) string { return hex.EncodeToString(b) }

// encodedExample are the bytes of the examples' network and question.
func encodedExample(t *testing.T) (net, prop []byte) {
	t.Helper()
	n, p := cases.Example(false)
	return encoded(t, n, p)
}
