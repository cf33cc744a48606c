package desk

import (
	"strings"
	"testing"

	"ambit/cases"
)

// 22.4: each command with too few, too many and other words: error 220 on every desk, also where error 221, or one of the call beneath, would be told of words that fit.
func TestWordsThatDoNotFit(t *testing.T) {
	wrong := map[string][]string{}
	for _, name := range []string{"netbytes", "propbytes", "margin", "account", "forget"} {
		wrong[name] = []string{"0", "1", "-1", "x", name, `""`, `"a"`, "0.5", "0 0", `"" ""`, "-0", "1e400"}
	}
	for _, name := range []string{"net", "prop"} {
		wrong[name] = []string{"", "0", "x", "net", "0.5", `"" ""`, `"a" 1`, `1 "a"`, `"a" "b" "c"`, `"a" x`, `'a'`}
	}
	for _, name := range []string{"netof", "propof", "check"} {
		wrong[name] = []string{"", "0", "4a", "00", "x", "414d424e", `"4a" "4a"`, `"4a" 1`, `"4"`, `"4A"`, `"xy"`, `" "`, `"" ""`, `"4a" x`, `"4a\n"`}
	}
	for _, name := range []string{"shape", "verify", "radius", "bounds", "columns"} {
		wrong[name] = []string{"", "1 1", "1 1 1", "x", "1 x", `"1"`, "0.5", "1.0", "1e0", "0x1p0", "01", "-0", "+1", "9223372036854775808", "one"}
	}
	wrong["shadow"] = []string{"", "0", "0 0", "0 0 0 0", "x 0 0", "0 x 0", "0 0 x", "0 0 0.5", "0.5 0 0", "0 0 -0", "0 01 0", `0 0 "0"`, `"0 0 0"`, "0 0 9223372036854775808"}
	wrong["trial"] = []string{"x", "0 x", "0.5", "-1 0.5", "1.0", "-0", "01", "+1", `"1"`, `""`, "9223372036854775808", "1e0"}
	wrong["walk"] = []string{"x", "0 x", "1 2 x", "1e400", "+1", ".5", `"1"`, `""`, "0x1", "inf", "nan", "1E5"}
	wrong["exact"] = wrong["walk"]
	none, network, both := desks(t)
	for _, name := range names() {
		if len(wrong[name]) == 0 {
			t.Errorf("%s is not asked", name)
		}
		for _, x := range []*Desk{none, network, both} {
			before := state(x)
			for _, words := range wrong[name] {
				allAnswer(t, x, noCommand, name+" "+words, "\t"+name+"\t"+words+" # "+name, name+" "+words+" x")
			}
			if got := state(x); got != before {
				t.Errorf("%s: %s, not %s", name, got, before)
			}
		}
	}
}

// 22.4: where nothing is there yet, that is told ahead of what the command itself says.
func TestNothingYet(t *testing.T) {
	none, network, _ := desks(t)
	needsNetwork := []string{
		`prop ""`, `prop "x"`, goodLine, "netbytes", `propof ""`, `propof "4a"`, "shape 0", "shape 99", "shape -1", "walk", "walk 1", "walk 1 2 3", "exact", "exact 1 2 3",
	}
	needsBoth := []string{
		"propbytes", "verify 0", "verify 1", "verify 99", "radius -1", "radius 99", "radius 0", "bounds 0", "bounds -1", "bounds 99", "columns 0", "columns 99", "margin", "trial", "trial 0", "trial 7 7",
		"shadow 0 0 0", "shadow 99 0 0", "shadow 0 -1 99", "account", `check ""`, `check "4a"`,
	}
	allAnswer(t, none, nothing, needsNetwork...)
	allAnswer(t, none, nothing, needsBoth...)
	allAnswer(t, network, nothing, needsBoth...)
	if got := state(network); !strings.HasSuffix(got, "and "+nothing) {
		t.Error(got)
	}
	// And what fits is held ahead of that.
	for _, line := range append(needsNetwork, needsBoth...) {
		does(t, none, line+" x", noCommand, line+` "`, noCommand, line+" \x80", noCommand)
	}
}

// 22.5: what is refused changes nothing: neither the network nor the question.
func TestRefusedChangesNothing(t *testing.T) {
	net, prop := encodedExample(t)
	none, network, both := desks(t)
	refused := []string{
		`net ""`, `net "nonsense"`, `net "net 1 1 1"`, `net "net 1 1 1\ndense 1\nw 1 2\nb 0\nend"`, `net "net 1 1 2\nend\nx"`, of("netof", nil), of("netof", net[:len(net)-1]), of("netof", append(net[:len(net):len(net)], 0)), of("netof", prop),
		`prop ""`, `prop "nonsense"`, `prop "prop\nc 0\ntarget 0\nk 1\ndepth 0\nlooks 1\nend"`, strings.Replace(goodLine, "k 2", "k 9", 1), strings.Replace(goodLine, "target 0", "target 2", 1), strings.Replace(goodLine, `\nend`, "", 1), of("propof", nil), of("propof", net), of("propof", prop[:len(prop)-1]),
		"shape 9", "verify 0", "radius 21", "bounds 9", "columns -1", "walk 1", "exact 1", "shadow 9 0 0", "shadow 0 9 9", of("check", nil), "forget x", "forget 1", "Forget", "stat", "\x80", `"`, "forget #\x80", strings.Repeat("forget ", 9999),
	}
	for _, x := range []*Desk{none, network, both} {
		before := state(x)
		for _, line := range refused {
			if got := x.Do(line); !strings.HasPrefix(got, "error ") {
				t.Errorf("%s: %s", shown(line), got)
			}
			if got := state(x); got != before {
				t.Fatalf("%s: %s, not %s", shown(line), got, before)
			}
		}
	}
	does(t, both, "verify 1", "ok robust 0x1p-1 1")
}

// 22.4: a network lets the question go, also the same network, however it comes; a question lets another one go; forget both.
func TestWhatGoes(t *testing.T) {
	net, prop := encodedExample(t)
	for line, shape := range map[string]string{netLine: "ok 1 1 2", of("netof", net): "ok 1 1 2", `net "net 1 1 1\nend"`: "ok 1 1 1"} {
		_, _, x := desks(t)
		does(t, x, "margin", "ok 0x1p-1", line, "ok", "margin", nothing, "propbytes", nothing, "shape 0", shape)
	}
	_, _, x := desks(t)
	does(t, x, furtherLine, "ok", "margin", "ok 0x1p-1 -0x1p-2", "shape 1", "ok 2 1 1", of("propof", prop), "ok", "margin", "ok 0x1p-1", "netbytes", "ok "+hexOf(net))
	does(t, x, "forget", "ok", "margin", nothing, "propbytes", nothing, "netbytes", nothing, "shape 0", nothing, goodLine, nothing, "forget", "ok", "forget", "ok", netLine, "ok", "margin", nothing, goodLine, "ok", "margin", "ok 0x1p-1")
	// A question that fits the network ahead does not come back, and one is held against the network that is there.
	other, _ := linesFor(t, cases.Kinks(0.5), cases.Unit(numbers(1, 1)))
	does(t, x, other, "ok", goodLine, "error 63 0", "margin", nothing, netLine, "ok", "margin", nothing)
}

// 22.5: what is asked changes nothing.
func TestAskingChangesNothing(t *testing.T) {
	x := example(t, true)
	before := state(x)
	asks := []string{"", "# x", "netbytes", "propbytes", "shape 0", "verify 1", "radius 3", "bounds 0", "bounds 1", "columns 1", "margin", "trial -1", "walk 1 2", "exact 1 2", "shadow 1 0 1", "account", `check ""`, "verify 16"}
	first := map[string]string{}
	for range 3 {
		for _, line := range asks {
			got := x.Do(line)
			if want, asked := first[line]; asked && got != want {
				t.Errorf("%s: %s, not %s", line, got, want)
			}
			first[line] = got
			if got := state(x); got != before {
				t.Fatalf("%s: %s, not %s", line, got, before)
			}
		}
	}
}
