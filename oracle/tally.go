package oracle

// A Tally counts what came up, so that a test of mixed inputs can be held to having seen what it is for.
type Tally map[string]int

// A Complainer is who is told what is wrong: a test.
type Complainer interface {
	Helper()
	Errorf(format string, args ...any)
}

// Note counts something, if it is so.
func (seen Tally) Note(name string, is bool) {
	if is {
		seen[name]++
	}
}

// Expect complains of each name that came up less than so often.
func (seen Tally) Expect(t Complainer, least int, names ...string) {
	t.Helper()
	for _, name := range names {
		if seen[name] < least {
			t.Errorf("%s came up %d times only", name, seen[name])
		}
	}
}
