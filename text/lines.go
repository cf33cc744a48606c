package text

import (
	"strings"
	"unicode/utf8"

	"ambit/api"
)

// A line is one that has words, and its number.
type line struct {
	at    int
	words []string
}

// A cutter parts a text into lines and words.
type cutter struct {
	text   string
	lines  []line
	words  []string // of the line in hand
	begin  int      // where the word in hand begins, or nowhere
	remark bool     // the rest of the line in hand is one
	at     int      // its number
}

// nowhere is where no word begins.
const nowhere = -1

// linesOf are a text's lines that have words, and the number behind the last line's.
func linesOf(s string) ([]line, int) {
	c := cutter{text: s, begin: nowhere, at: 1}
	for i, r := range s {
		switch {
		// For a byte that is of no code point range tells fffd, which may stand there itself, too.
		case r == utf8.RuneError && !strings.HasPrefix(s[i:], string(utf8.RuneError)):
			refuse(api.ErrUTF, c.at)
		case r == '\n':
			c.endLine(i)
		case r == '#':
			c.endWord(i)
			c.remark = true
		case r == ' ' || r == '\t':
			c.endWord(i)
		case c.begin == nowhere && !c.remark:
			c.begin = i
		}
	}
	if s != "" && !strings.HasSuffix(s, "\n") {
		c.endLine(len(s))
	}
	return c.lines, c.at
}

// endWord keeps the word in hand, if there is one.
func (c *cutter) endWord(behind int) {
	if c.begin != nowhere {
		c.words = append(c.words, c.text[c.begin:behind])
	}
	c.begin = nowhere
}

// endLine keeps the line in hand, if it has a word, and goes on to the next one.
func (c *cutter) endLine(behind int) {
	c.endWord(behind)
	if len(c.words) > 0 {
		c.lines = append(c.lines, line{at: c.at, words: c.words})
	}
	c.words, c.remark = nil, false
	c.at++
}
