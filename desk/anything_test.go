package desk

import (
	"strings"
	"testing"

	"ambit/api"
	"ambit/cases"
	"ambit/oracle"
)

// anyLine is made of nothing in particular, though it often has pieces of what may be, newlines too.
func anyLine(m *oracle.Mixer) string {
	pieces := append(names(), `"`, `"`, `\`, `\n`, `\"`, `\\`, "#", " ", " ", " ", " ", "\t", "\n", "\r", "\x00", "\x80", "é", "𝄞", "\ufffd", "0", "1", "2", "-1", "-0", "01", "0.5", "1e5", "1e400", "0x1p-3", "x", "X", "net 1 1 2", `"4a"`, `""`, "414d424e01", "prop", "c 0 0", "9223372036854775807", "9223372036854775808")
	var b strings.Builder
	for range m.Below([]int{3, 8, 30}[m.Below(3)]) {
		if m.Below(8) == 0 {
			b.WriteByte(byte(m.Word()))
		} else {
			b.WriteString(pieces[m.Below(len(pieces))])
		}
		if m.Below(2) == 0 {
			b.WriteByte(' ')
		}
	}
	return b.String()
}

// 22.5: whatever line it is given, a desk answers by one line, as the chapter's words do, and twice the same where nothing is laid.
func TestAnyLineIsAnswered(t *testing.T) {
	t.Parallel()
	var m oracle.Mixer
	seen := oracle.Tally{}
	for range 40 {
		n, p := cases.Mixed(&m)
		p.Looks = 1
		k := knownOf(t, n, p)
		x, y := New(), &twin{}
		for i := range 3000 {
			line := anyLine(&m)
			if i%500 == 0 {
				line = k.laying[i/500%2]
			}
			want, got := y.do(line), x.Do(line)
			if got != want || strings.ContainsAny(got, "\n\r") {
				t.Fatalf("%s: %s, not %s", shown(line), shown(got), shown(want))
			}
			note(seen, "line", got)
			seen.Note("with a newline", strings.Contains(line, "\n") && got != noCommand)
		}
	}
	seen.Expect(t, 20, "line ok", "line error 220", "line error 221", "line error 63", "an empty answer", "with a newline")
}

// 22.2, 22.5: likewise of scripts.
func TestAnyScriptIsAnswered(t *testing.T) {
	t.Parallel()
	var m oracle.Mixer
	refused := 0
	for range 400 {
		var b strings.Builder
		for range m.Below(1000) {
			b.WriteString(anyLine(&m))
			if m.Below(4) > 0 {
				b.WriteByte('\n')
			}
		}
		script := b.String()
		lines := strings.SplitAfter(script, "\n")
		if lines[len(lines)-1] == "" {
			lines = lines[:len(lines)-1]
		}
		if len(script) > 65536 || len(lines) > 512 {
			refused++
			expectNoRun(t, script)
			continue
		}
		y, want := &twin{}, ""
		for _, line := range lines {
			want += y.do(strings.TrimSuffix(line, "\n")) + "\n"
		}
		expectRun(t, script, want)
		if t.Failed() {
			return
		}
	}
	if refused < 20 || refused > 300 {
		t.Errorf("%d were refused", refused)
	}
}

// 22.5: no answer holds a newline, whatever names and numbers a network has.
func TestAnswersAreOneLine(t *testing.T) {
	x := New()
	for _, line := range []string{netLine, furtherLine, `net "\n\n\n"`, `prop "\n"`, "#\n", "\n", "forget\n", "verify\n1", `net "a` + "\n" + `b"`, "shape 1\n"} {
		if got := x.Do(line); strings.Contains(got, "\n") {
			t.Errorf("%q: %q", line, got)
		}
	}
	does(t, x, "verify 1", "ok falsified 1 0x1p-2 1 -1")
	if got, e := Run("verify 1"); e != api.OK || got != "error 221\n" {
		t.Errorf("%q %v", got, e)
	}
}
