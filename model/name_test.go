package model

import (
	"strings"
	"testing"
	"unicode/utf8"

	"ambit/oracle"
)

// barred tells whether a code point is one that stands in no name.
func barred(r rune) bool {
	return r <= 0x20 || r == 0x23 || r >= 0x7f && r <= 0xa0
}

// 6.7: every code point, alone, behind others and ahead of others.
func TestNameOfEachCodePoint(t *testing.T) {
	for r := rune(0); r <= utf8.MaxRune; r++ {
		if !utf8.ValidRune(r) {
			continue
		}
		for _, s := range []string{string(r), "ab" + string(r), string(r) + "é", strings.Repeat(string(r), 32)} {
			if got := Name(s); got == barred(r) {
				t.Errorf("Name(%q): %v", s, got)
			}
		}
	}
}

// 6.7: the code points on both sides of what is barred.
func TestNameAtItsEdges(t *testing.T) {
	for _, c := range []struct {
		s  string
		is bool
	}{
		{"", false}, {"\x00", false}, {"\t", false}, {"\n", false}, {"\r", false}, {" ", false}, {"!", true}, {"\"", true}, {"#", false}, {"$", true}, {"-", true},
		{"~", true}, {"\x7f", false}, {"\u0080", false}, {"\u0085", false}, {"\u009f", false}, {"\u00a0", false}, {"\u00a1", true},
		{"\ud7ff", true}, {"\ue000", true}, {"\ufeff", true}, {"\ufffd", true}, {"\uffff", true}, {"\U00010000", true}, {"\U0010ffff", true},
		{"a b", false}, {" a", false}, {"a ", false}, {"a#", false}, {"#a", false}, {"a\nb", false}, {"cat", true}, {"0", true}, {"日本", true},
	} {
		if got := Name(c.s); got != c.is {
			t.Errorf("Name(%q): %v", c.s, got)
		}
	}
}

// 6.7: 1 to 32 code points, however many bytes each has.
func TestLengthOfNames(t *testing.T) {
	for _, r := range []string{"a", "é", "日", "\U0001d11e", "\ufffd", "\U0010ffff"} {
		for n := range 70 {
			if got := Name(strings.Repeat(r, n)); got != (n >= 1 && n <= 32) {
				t.Errorf("Name of %d times %q: %v", n, r, got)
			}
		}
		if Name(strings.Repeat(r, 100000)) {
			t.Errorf("Name of 100000 times %q", r)
		}
	}
	mixed := strings.Repeat("aé日\U0001d11e", 8)
	if !Name(mixed) || Name(mixed+"a") {
		t.Error("32 code points of unlike sizes, or one more")
	}
}

// 6.7: what is no text is no name.
func TestNamesThatAreNoText(t *testing.T) {
	for _, s := range []string{
		"\x80", "\xff", "a\x80", "\xc3", "a\xc3", "\xc0\x80", "\xc1\xbf", "\xed\xa0\x80", "\xed\xbf\xbf", "\xe0\x80\x80", "\xf0\x80\x80\x80", "\xf4\x90\x80\x80", "\xf8\x88\x80\x80\x80", "\xef\xbf", "\ufffd\xef\xbf",
	} {
		for _, name := range []string{s, "a" + s, s + "a", strings.Repeat("a", 31) + s} {
			if Name(name) {
				t.Errorf("Name(%q)", name)
			}
		}
	}
}

// 6.7: any bytes, held against the library's look at UTF-8.
func TestNamesOfAnyBytes(t *testing.T) {
	var m oracle.Mixer
	some := []byte{0, 0x20, 0x21, 0x23, 0x41, 0x7f, 0x80, 0xa0, 0xbf, 0xc2, 0xc3, 0xe2, 0xed, 0xef, 0xf0, 0xf4, 0xff}
	for range 300000 {
		var b []byte
		for range m.Below(5) {
			b = append(b, some[m.Below(len(some))])
		}
		s := string(b)
		want := utf8.Valid(b) && len(b) > 0 && !strings.ContainsFunc(s, barred)
		if got := Name(s); got != want {
			t.Errorf("Name(%q): %v", s, got)
		}
	}
}
