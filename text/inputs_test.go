package text

import (
	"fmt"
	"strings"
	"testing"

	"ambit/api"
	"ambit/oracle"
	"ambit/samples"
)

// text joins lines, with a line feed behind each.
func text(lines ...string) string { return strings.Join(lines, "\n") + "\n" }

// shown is a text as an error tells it: no more than its beginning and its end.
func shown(s string) string {
	if len(s) > 400 {
		return fmt.Sprintf("%q..%q (%d bytes)", s[:200], s[len(s)-100:], len(s))
	}
	return fmt.Sprintf("%q", s)
}

// expectNumber holds Number to a number, bit for bit.
func expectNumber(t *testing.T, s string, want float64) {
	t.Helper()
	if a, ok := Number(s); !ok || !oracle.Same(a, want) {
		t.Errorf("Number(%s): %x %v, not %x", shown(s), a, ok, want)
	}
}

func expectNoNumber(t *testing.T, s string) {
	t.Helper()
	if a, ok := Number(s); ok || !oracle.Same(a, 0) {
		t.Errorf("Number(%s): %x %v, not 0 and false", shown(s), a, ok)
	}
}

func expectNet(t *testing.T, s string, want api.Net) {
	t.Helper()
	if n, e, line := ReadNet(s); e != api.OK || line != 0 || !samples.SameNet(n, want) {
		t.Errorf("ReadNet(%s): %+v %v %d, not %+v", shown(s), n, e, line, want)
	}
}

// expectNoNet holds ReadNet to an error and its line, and to nothing beside them.
func expectNoNet(t *testing.T, s string, e api.Errno, line int) {
	t.Helper()
	if n, f, at := ReadNet(s); f != e || at != line || !samples.SameNet(n, api.Net{}) {
		t.Errorf("ReadNet(%s): %+v beside %v at %d, not %v at %d alone", shown(s), n, f, at, e, line)
	}
}

func expectProp(t *testing.T, s string, want api.Prop) {
	t.Helper()
	if p, e, line := ReadProp(s); e != api.OK || line != 0 || !samples.SameProp(p, want) {
		t.Errorf("ReadProp(%s): %+v %v %d, not %+v", shown(s), p, e, line, want)
	}
}

func expectNoProp(t *testing.T, s string, e api.Errno, line int) {
	t.Helper()
	if p, f, at := ReadProp(s); f != e || at != line || !samples.SameProp(p, api.Prop{}) {
		t.Errorf("ReadProp(%s): %+v beside %v at %d, not %v at %d alone", shown(s), p, f, at, e, line)
	}
}

// expectNetText holds a network to its text, both ways.
func expectNetText(t *testing.T, n api.Net, want string) {
	t.Helper()
	if s, e := PrintNet(n); e != api.OK || s != want {
		t.Errorf("PrintNet(%+v): %s %v, not %s", n, shown(s), e, shown(want))
	}
	expectNet(t, want, n)
}

func expectPropText(t *testing.T, p api.Prop, want string) {
	t.Helper()
	if s, e := PrintProp(p); e != api.OK || s != want {
		t.Errorf("PrintProp(%+v): %s %v, not %s", p, shown(s), e, shown(want))
	}
	expectProp(t, want, p)
}

// expectNoNetText holds PrintNet to an error, and to nothing beside it.
func expectNoNetText(t *testing.T, n api.Net, e api.Errno) {
	t.Helper()
	if s, f := PrintNet(n); f != e || s != "" {
		t.Errorf("PrintNet of %d layers and %d names over %v: %s beside %v, not %v alone", len(n.Layers), len(n.Names), n.In, shown(s), f, e)
	}
}

func expectNoPropText(t *testing.T, p api.Prop, e api.Errno) {
	t.Helper()
	if s, f := PrintProp(p); f != e || s != "" {
		t.Errorf("PrintProp of %d columns and %d claims: %s beside %v, not %v alone", len(p.G), len(p.Claims), shown(s), f, e)
	}
}
