package desk

import (
	"strings"
	"sync"
	"testing"

	"ambit/api"
	"ambit/cases"
	"ambit/oracle"
)

func expectRun(t *testing.T, script, want string) {
	t.Helper()
	if got, e := Run(script); e != api.OK || got != want {
		t.Errorf("%s: %s %v, not %s", shown(script), shown(got), e, shown(want))
	}
}

func expectNoRun(t *testing.T, script string) {
	t.Helper()
	if got, e := Run(script); e != api.ErrScript || got != "" {
		t.Errorf("%s: %s beside %v", shown(script), shown(got), e)
	}
}

// 22.2: lines are what stands between newlines; what is empty behind the last one is none.
func TestLinesOfScripts(t *testing.T) {
	expectRun(t, "", "")
	expectRun(t, "\n", "\n")
	expectRun(t, "\n\n", "\n\n")
	expectRun(t, " ", "\n")
	expectRun(t, " \n", "\n")
	expectRun(t, "\n ", "\n\n")
	expectRun(t, "forget", "ok\n")
	expectRun(t, "forget\n", "ok\n")
	expectRun(t, "forget\n\n", "ok\n\n")
	expectRun(t, "\nforget", "\nok\n")
	expectRun(t, "margin\n\nforget", "error 221\n\nok\n")
	expectRun(t, "# a\n#b\n\t\nx\n", "\n\n\nerror 220\n")
	// Nothing else ends a line.
	expectRun(t, "forget\r\nforget\r", "error 220\nerror 220\n")
	expectRun(t, "forget\vforget\u2028forget\u0085", "error 220\n")
	expectRun(t, "forget\\nforget", "error 220\n")
	// Nor does a literal go on behind one.
	expectRun(t, "net \"net 1 1 1\nend\"", "error 220\nerror 220\n")
	// What is no UTF-8 is for the line where it stands.
	expectRun(t, "forget\n\x80\nforget #\xff\nforget", "ok\nerror 220\nerror 220\nok\n")
	expectRun(t, "\xc3\n\xa9", "error 220\nerror 220\n")
}

// 22.2: how long a script may be, in bytes and in lines.
func TestLongScripts(t *testing.T) {
	for _, fill := range []string{" ", "x", "\x80", "#", "\""} {
		expectNoRun(t, strings.Repeat(fill, 65537))
		expectNoRun(t, strings.Repeat(fill, 65536)+"\n")
		expectNoRun(t, strings.Repeat(fill, 1000000))
	}
	expectRun(t, strings.Repeat(" ", 65536), "\n")
	expectRun(t, strings.Repeat(" ", 65535)+"\n", "\n")
	expectRun(t, strings.Repeat("x", 65536), "error 220\n")
	expectRun(t, "forget\n"+strings.Repeat(" ", 65529), "ok\n\n")
	expectNoRun(t, "forget\n"+strings.Repeat(" ", 65530))
	expectNoRun(t, "#"+strings.Repeat("é", 32768))

	expectRun(t, strings.Repeat("\n", 512), strings.Repeat("\n", 512))
	expectNoRun(t, strings.Repeat("\n", 513))
	expectNoRun(t, strings.Repeat("\n", 512)+" ")
	expectRun(t, strings.Repeat("forget\n", 512), strings.Repeat("ok\n", 512))
	expectRun(t, strings.Repeat("forget\n", 511)+"forget", strings.Repeat("ok\n", 512))
	expectNoRun(t, strings.Repeat("forget\n", 512)+"forget")
	expectNoRun(t, strings.Repeat("forget\n", 513))
	expectNoRun(t, strings.Repeat("\n", 65536))
	expectNoRun(t, strings.Repeat("\n", 65537))
	// As many bytes as may be in as many lines.
	long := strings.Repeat(" ", 127) + "\n"
	expectRun(t, strings.Repeat(long, 512), strings.Repeat("\n", 512))
	expectNoRun(t, strings.Repeat(long, 512)+" ")
}

// 22.2: what is beyond is refused whole, and nothing of it is done.
func TestLongLinesOfScripts(t *testing.T) {
	expectRun(t, netLine+strings.Repeat(" ", 65536-len(netLine)), "ok\n")
	expectNoRun(t, netLine+strings.Repeat(" ", 65537-len(netLine)))
	expectRun(t, netLine+"\nshape 1\n"+strings.Repeat("#", 65536-len(netLine)-9), "ok\nok 2 1 1\n\n")
}

// mixedScript are some lines about a network and a question, of which the last one is not empty.
func mixedScript(t *testing.T, m *oracle.Mixer) []string {
	n, p := cases.Mixed(m)
	p.Looks = 1 + m.Below(3)
	return append(mixedLines(m, knownOf(t, n, p)), "forget")
}

// 22.2: Run's answers are those of Do, one by one, on a new desk.
func TestRunIsDoLineByLine(t *testing.T) {
	t.Parallel()
	var m oracle.Mixer
	long := 0
	for range 400 {
		lines := mixedScript(t, &m)
		x, want := New(), ""
		for _, line := range lines {
			want += x.Do(line) + "\n"
		}
		script := strings.Join(lines, "\n")
		if len(script) > 65535 {
			long++
			continue
		}
		expectRun(t, script+"\n", want)
		expectRun(t, script, want)
		// A script leaves nothing behind.
		expectRun(t, "netbytes\npropbytes", "error 221\nerror 221\n")
		if t.Failed() {
			return
		}
	}
	if long > 40 {
		t.Errorf("%d scripts were too long", long)
	}
}

// 22.1: a new desk has nothing, whatever other ones have.
func TestNewDesks(t *testing.T) {
	x := New()
	if x == nil || New() == x {
		t.Fatal("no new desk")
	}
	does(t, x, netLine, "ok", goodLine, "ok")
	for range 3 {
		does(t, New(), "netbytes", nothing, "propbytes", nothing, "shape 0", nothing, "verify 1", nothing)
	}
	does(t, x, "verify 1", "ok robust 0x1p-1 1")
}

// 22.1: two desks by turns have nothing in common: each answers as if it were alone.
func TestDesksByTurns(t *testing.T) {
	t.Parallel()
	var m oracle.Mixer
	for range 150 {
		first, second := mixedScript(t, &m), mixedScript(t, &m)
		x, y := New(), New()
		var got, told []string
		for i := range max(len(first), len(second)) {
			if i < len(first) {
				got = append(got, x.Do(first[i]))
			}
			if i < len(second) {
				told = append(told, y.Do(second[i]))
			}
		}
		for _, c := range []struct{ lines, got []string }{{first, got}, {second, told}} {
			alone := New()
			for i, line := range c.lines {
				does(t, alone, line, c.got[i])
			}
		}
		if t.Failed() {
			return
		}
	}
}

// 22.1: desks side by side, each with its own, and scripts.
func TestDesksSideBySide(t *testing.T) {
	var busy sync.WaitGroup
	for i := range 8 {
		busy.Go(func() {
			x := New()
			for range 20 {
				if i%2 == 0 {
					does(t, x, netLine, "ok", furtherLine, "ok", "verify 2", "ok falsified 1 0x1p-2 1 -1", "forget", "ok")
				} else {
					does(t, x, "verify 2", nothing, netLine, "ok", "verify 2", nothing, goodLine, "ok", "verify 2", "ok robust 0x1p-1 1", "columns 1", "ok 0", "forget", "ok")
				}
				expectRun(t, netLine+"\n"+goodLine+"\nmargin\n", "ok\nok\nok 0x1p-1\n")
			}
		})
	}
	busy.Wait()
}
