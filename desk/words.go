package desk

import (
	"strings"

	"ambit/wire"
)

// A word is what a literal stands for, or else what is written.
type word struct {
	text    string
	literal bool
}

// A place is where in a line a cutter is.
type place int

const (
	between place = iota // where a word might begin
	within               // in a word that is no literal
	quoted               // in a literal
	escaped              // in a literal, behind a backslash
	behind               // right behind a literal
	remark               // behind what ended the line
	broken               // where nothing of what may be stands
)

// A cutter parts a line into words.
type cutter struct {
	at    place
	words []word
	text  strings.Builder // of the word in hand
}

// wordsOf are a line's words; false, if the line holds something else. What stands in a word that is no literal is left to whoever reads it.
func wordsOf(line string) ([]word, bool) {
	if _, ok := wire.Runes(line); !ok {
		return nil, false
	}
	var c cutter
	for _, r := range line {
		c.at = c.next(r)
	}
	// A line's end parts words as a blank does, and neither closes a literal.
	c.at = c.next(' ')
	return c.words, c.at == between || c.at == remark
}

// next goes on by a character, and tells where that leads.
func (c *cutter) next(r rune) place {
	switch c.at {
	case between:
		return c.begin(r)
	case within:
		return c.goOn(r)
	case quoted:
		return c.quote(r)
	case escaped:
		return c.escape(r)
	case behind:
		if parts(r) {
			return between
		}
		return broken
	}
	return c.at
}

func parts(r rune) bool { return r == ' ' || r == '\t' }

// begin is for where a word might begin.
func (c *cutter) begin(r rune) place {
	switch {
	case parts(r):
		return between
	case r == '#':
		return remark
	case r == '"':
		return quoted
	}
	return c.keep(r, within)
}

// goOn is for a word that is no literal.
func (c *cutter) goOn(r rune) place {
	if parts(r) {
		return c.end(false, between)
	}
	return c.keep(r, within)
}

// quote is for a literal.
func (c *cutter) quote(r rune) place {
	switch {
	case r == '"':
		return c.end(true, behind)
	case r == '\\':
		return escaped
	case r < ' ':
		return broken
	}
	return c.keep(r, quoted)
}

// escape is for what stands behind a backslash.
func (c *cutter) escape(r rune) place {
	switch r {
	case 'n':
		return c.keep('\n', quoted)
	case '"', '\\':
		return c.keep(r, quoted)
	}
	return broken
}

// keep adds a character to the word in hand.
func (c *cutter) keep(r rune, then place) place {
	c.text.WriteRune(r)
	return then
}

// end adds the word in hand to the others.
func (c *cutter) end(literal bool, then place) place {
	c.words = append(c.words, word{c.text.String(), literal})
	c.text.Reset()
	return then
}
