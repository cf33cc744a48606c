package desk

import "testing"

// 22.3, 22.4: the examples, on a desk with nothing.
func TestExamples(t *testing.T) {
	does(t, New(),
		"verify 1", "error 221",
		`net "nonsense"`, "error 90 1",
		"shape", "error 220",
		"stat", "error 220",
		"# a remark", "",
	)
}

// 22.4: the examples of chapters 16 to 21, told of a desk.
func TestExamplesOfOtherChapters(t *testing.T) {
	x := New()
	does(t, x, netLine, "ok", goodLine, "ok",
		"shape 0", "ok 1 1 2", "shape 1", "ok 2 1 1",
		"bounds 0", "ok -0x1p-1 0x1.8p+0 0x1p-2 0x1p-2", "bounds 1", "ok -0x1p-2 0x1.cp+0 -0x1.8p-1 0x1.4p+0",
		"columns 0", "ok 0", "columns 1", "ok 0",
		"margin", "ok 0x1p-1", "verify 1", "ok robust 0x1p-1 1", "radius 2", "ok 4 robust 0x1p-1 1",
		furtherLine, "ok",
		"margin", "ok 0x1p-1 -0x1p-2", "trial -1", "ok 1 0x1p-2", "trial 0", "ok none", "trial 1", "ok none",
		"verify 1", "ok falsified 1 0x1p-2 1 -1", "radius 2", "ok 2 robust 0x1p-2 1", "account", "error 202",
		"shadow 0 0 1", "ok 0x0p+0 -0x1p-1 0x1p-2 0x1.8p+0 0x1p-2", "shadow 1 1 1", "ok 0x0p+0 -0x1.8p-1 -0x1.8p-1 0x1.4p+0 0x1.4p+0",
	)
}

// 22.2: the script of README.md.
func TestExampleOfAScript(t *testing.T) {
	script := `# a network, and a question to it
net "net 1 1 2\ndense 2\nw 1 2 3 4\nb 0 1\nrelu\nend"
prop "prop\nc 1 0\ng 0.5 0\ntarget 1\nk 2\ndepth 4\nlooks 64\nend"
verify 4
bounds 2
exact 1.5 0
shape 3
`
	want := `
ok
ok
ok robust 0x1p+1 1
ok 0x1p-1 0x1.8p+0 0x1.4p+1 0x1.6p+2
ok 0x1.8p+0 0x1.8p+0 0x1.6p+2 0x1.6p+2
error 1
`
	expectRun(t, script, want)
}
