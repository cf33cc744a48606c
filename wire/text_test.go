package wire

import (
	"bytes"
	"math"
	"strings"
	"testing"

	"ambit/api"
)

const lastPoint = 0x10ffff

// form is a code point's one form, by the chapter's own words.
func form(p int) []byte {
	six := func(shift int) byte { return byte(0x80 | p>>shift&0x3f) }
	switch {
	case p <= 0x7f:
		return []byte{byte(p)}
	case p <= 0x7ff:
		return []byte{byte(0xc0 | p>>6), six(0)}
	case p <= 0xffff:
		return []byte{byte(0xe0 | p>>12), six(6), six(0)}
	}
	return []byte{byte(0xf0 | p>>18), six(12), six(6), six(0)}
}

func isPoint(p int) bool { return p >= 0 && p <= lastPoint && (p < 0xd800 || p > 0xdfff) }

// firstPoint guesses a code point by the first byte alone, and leaves it to form to tell whether these bytes are it.
func firstPoint(b []byte) (int, int, bool) {
	width, p := 1, int(b[0])
	switch {
	case b[0] >= 0xf0:
		width, p = 4, int(b[0]&7)
	case b[0] >= 0xe0:
		width, p = 3, int(b[0]&15)
	case b[0] >= 0xc0:
		width, p = 2, int(b[0]&31)
	}
	if len(b) < width {
		return 0, 0, false
	}
	for _, c := range b[1:width] {
		p = p<<6 | int(c&0x3f)
	}
	return p, width, isPoint(p) && bytes.Equal(form(p), b[:width])
}

// countPoints is what Runes must tell.
func countPoints(b []byte) (int, bool) {
	n := 0
	for len(b) > 0 {
		_, width, ok := firstPoint(b)
		if !ok {
			return 0, false
		}
		b = b[width:]
		n++
	}
	return n, true
}

// holdToTexts holds Runes, Text and ReadText against what the chapter says of these bytes.
func holdToTexts(t *testing.T, b []byte) {
	t.Helper()
	s := string(b)
	want, isText := countPoints(b)
	if n, ok := Runes(s); n != want || ok != isText {
		t.Errorf("Runes(%x): %d %v, want %d %v", b, n, ok, want, isText)
	}
	written := append(groups(len(b)), b...)
	wantBytes, wantText, wantPlace, wantErr := written, s, len(written), api.OK
	if !isText {
		wantBytes, wantText, wantPlace, wantErr = nil, "", 0, api.ErrUTF
	}
	if got, e := Text(s); !bytes.Equal(got, wantBytes) || e != wantErr {
		t.Errorf("Text(%x): %x %v, want %x %v", b, got, e, wantBytes, wantErr)
	}
	if got, place, e := ReadText(written, 0, len(b)); got != wantText || place != wantPlace || e != wantErr {
		t.Errorf("ReadText(%x): %x %d %v, want %v", written, got, place, e, wantErr)
	}
}

func texts() []string {
	return []string{"", "\x00", "a", "b", "ab", "aé", "é", "€", "\ufffd", "\uffff", "\U00010000", "\U0010ffff", "é€\U0001d11ea", strings.Repeat("a", 127), strings.Repeat("é", 64), strings.Repeat("€", 6000)}
}

// 1.3
func TestRunes(t *testing.T) {
	for _, c := range []struct {
		s  string
		n  int
		ok bool
	}{
		{"", 0, true},
		{"aé", 2, true},
		{"\x00\x7f", 2, true},
		{"\u0080\u07ff", 2, true},
		{"\u0800\ud7ff\ue000\uffff", 4, true},
		{"\U00010000\U0010ffff", 2, true},
		{"\ufffd", 1, true},
		{"a\ufffda", 3, true},
		{"\xc0\x80", 0, false},
		{"\xc1\xbf", 0, false},
		{"\xe0\x9f\xbf", 0, false},
		{"\xf0\x8f\xbf\xbf", 0, false},
		{"\xed\xa0\x80", 0, false},
		{"\xed\xbf\xbf", 0, false},
		{"\xf4\x90\x80\x80", 0, false},
		{"\xf5\x80\x80\x80", 0, false},
		{"\xff", 0, false},
		{"\x80", 0, false},
		{"a\xc3", 0, false},
		{"abc\xe2\x82", 0, false},
		{"\xf0\x9d\x84a", 0, false},
		{"\ufffd\xff", 0, false},
		{"\xff\ufffd", 0, false},
	} {
		if n, ok := Runes(c.s); n != c.n || ok != c.ok {
			t.Errorf("Runes(%x): %d %v, want %d %v", c.s, n, ok, c.n, c.ok)
		}
	}
}

// 1.3
func TestRunesTakesEveryCodePointAndNoOther(t *testing.T) {
	var all []byte
	count := 0
	for p := range 0x200000 {
		b := form(p)
		n, ok := Runes(string(b))
		if ok != isPoint(p) || ok && n != 1 || !ok && n != 0 {
			t.Fatalf("Runes of %x: %d %v", p, n, ok)
		}
		if ok {
			all = append(all, b...)
			count++
		}
	}
	if n, ok := Runes(string(all)); n != count || !ok {
		t.Errorf("Runes of all code points: %d %v, want %d", n, ok, count)
	}
}

// 1.4
func TestText(t *testing.T) {
	for _, c := range []struct {
		s    string
		want []byte
		e    api.Errno
	}{
		{"", []byte{0}, api.OK},
		{"é", []byte{2, 0xc3, 0xa9}, api.OK},
		{"ab", []byte{2, 'a', 'b'}, api.OK},
		{strings.Repeat("a", 128), append([]byte{0x80, 1}, repeat('a', 128)...), api.OK},
		{"\xff", nil, api.ErrUTF},
		{"ab\xc3", nil, api.ErrUTF},
	} {
		if got, e := Text(c.s); !bytes.Equal(got, c.want) || e != c.e {
			t.Errorf("Text(%x): %x %v, want %x %v", c.s, got, e, c.want, c.e)
		}
	}
}

// 1.4
func TestReadText(t *testing.T) {
	for _, c := range []struct {
		b        []byte
		at, most int
		s        string
		place    int
		e        api.Errno
	}{
		{[]byte{2, 'a', 'b', 'c'}, 0, 2, "ab", 3, api.OK},
		{[]byte{9, 2, 0xc3, 0xa9, 0xff}, 1, math.MaxInt, "é", 4, api.OK},
		{[]byte{0}, 0, 0, "", 1, api.OK},
		{[]byte{0, 0xff}, 0, 9, "", 1, api.OK},
		{[]byte{2, 'a', 'b'}, 0, -1, "", 0, api.ErrArg},
		{[]byte{2, 'a', 'b'}, 0, math.MinInt, "", 0, api.ErrArg},
		{[]byte{0x80, 0}, 0, -1, "", 0, api.ErrArg},
		{nil, 0, -1, "", 0, api.ErrArg},
		{nil, 0, 9, "", 0, api.ErrShort},
		{[]byte{0x82}, 0, 0, "", 0, api.ErrShort},
		{[]byte{0x82, 0, 'a', 'b'}, 0, 9, "", 0, api.ErrForm},
		{repeat(0xff, 9), 0, 9, "", 0, api.ErrWide},
		{[]byte{2, 'a', 'b'}, 0, 1, "", 0, api.ErrBig},
		{[]byte{2}, 0, 1, "", 0, api.ErrBig},
		{[]byte{2, 0xff, 0xff}, 0, 1, "", 0, api.ErrBig},
		{[]byte{1, 'a'}, 0, 0, "", 0, api.ErrBig},
		{repeat(0xff, 8, 0x7f), 0, math.MaxInt - 1, "", 0, api.ErrBig},
		{repeat(0xff, 8, 0x7f), 0, math.MaxInt, "", 0, api.ErrShort},
		{[]byte{2, 'a'}, 0, 9, "", 0, api.ErrShort},
		{[]byte{2, 0xff}, 0, 2, "", 0, api.ErrShort},
		{[]byte{1, 0x80}, 0, 9, "", 0, api.ErrUTF},
		{[]byte{1, 0xc3, 0xa9}, 0, 9, "", 0, api.ErrUTF},
	} {
		s, place, e := ReadText(c.b, c.at, c.most)
		if s != c.s || place != c.place || e != c.e {
			t.Errorf("ReadText(%x, %d, %d): %x %d %v, want %x %d %v", c.b, c.at, c.most, s, place, e, c.s, c.place, c.e)
		}
	}
}

// 1.10
func TestOneByteTurnedLeftOutOrPutIn(t *testing.T) {
	for _, s := range []string{"a", "é", "€", "\U0001d11e", "\ud7ff", "\ue000", "\u0800", "\U00010000", "\U0010ffff", "\ufffd", "aé€\U0001d11ez"} {
		for i := range len(s) + 1 {
			for c := range 256 {
				put := append([]byte(s[:i]), byte(c))
				holdToTexts(t, append(put, s[i:]...))
				if i < len(s) {
					turned := []byte(s)
					turned[i] = byte(c)
					holdToTexts(t, turned)
				}
			}
			if i < len(s) {
				holdToTexts(t, append([]byte(s[:i]), s[i+1:]...))
			}
		}
	}
}

// 1.10
func TestEveryRowOfEdgeBytes(t *testing.T) {
	edges := []byte{0, 0x7f, 0x80, 0x8f, 0x90, 0x9f, 0xa0, 0xbf, 0xc0, 0xc1, 0xc2, 0xdf, 0xe0, 0xe1, 0xec, 0xed, 0xee, 0xef, 0xf0, 0xf1, 0xf3, 0xf4, 0xf5, 0xf7, 0xf8, 0xff}
	var row func(b []byte, left int)
	row = func(b []byte, left int) {
		holdToTexts(t, b)
		for _, c := range edges {
			if left > 0 && !t.Failed() {
				row(append(bytes.Clone(b), c), left-1)
			}
		}
	}
	row(nil, 4)
}
