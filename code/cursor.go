package code

import (
	"bytes"

	"ambit/api"
	"ambit/wire"
)

// What a form begins with, and the version behind that.
const (
	netMagic  = "AMBN"
	propMagic = "AMBP"
	version   = 1
)

// A refusal is what a reader gives up with: the error, and the byte at which what is refused begins.
type refusal struct {
	e  api.Errno
	at int
}

// refuseIf gives up, wherever a reader is: it is for the face to recover that.
func refuseIf(wrong bool, e api.Errno, at int) {
	if wrong {
		panic(refusal{e, at})
	}
}

// refusalOf is the refusal that was thrown. Whatever else was thrown is a fault of the program, and must not pass for an answer.
func refusalOf(thrown any) refusal {
	why, ok := thrown.(refusal)
	if !ok {
		panic(thrown)
	}
	return why
}

// A cursor is bytes that are read from their beginning on, and the place of the next one.
type cursor struct {
	b  []byte
	at int
}

// head reads what a form begins with.
func (c *cursor) head(magic string) {
	refuseIf(len(c.b) > api.MaxFile, api.ErrLong, api.MaxFile)
	refuseIf(!bytes.HasPrefix(c.b, []byte(magic)), api.ErrMagic, 0)
	c.at = len(magic)
	refuseIf(c.at == len(c.b) || c.b[c.at] != version, api.ErrVersion, c.at)
	c.at++
}

// end holds the sum against all that is ahead of it; nothing may be behind it.
func (c *cursor) end() {
	want := sumOf(c.b[:c.at])
	behind := c.at + len(want)
	refuseIf(len(c.b) < behind, api.ErrShort, c.at)
	refuseIf(!bytes.Equal(c.b[c.at:behind], want), api.ErrSum, c.at)
	refuseIf(len(c.b) > behind, api.ErrRest, behind)
}

// pass goes on behind what wire read, or gives up where that begins.
func (c *cursor) pass(behind int, e api.Errno) {
	refuseIf(e != api.OK, e, c.at)
	c.at = behind
}

func (c *cursor) whole() int {
	n, behind, e := wire.ReadUint(c.b, c.at)
	c.pass(behind, e)
	return n
}

// count is a whole number that says how much follows.
func (c *cursor) count(least, most int) int {
	at := c.at
	n := c.whole()
	refuseIf(n < least || n > most, api.ErrSize, at)
	return n
}

func (c *cursor) number() float64 {
	a, behind, e := wire.ReadFloat(c.b, c.at)
	c.pass(behind, e)
	return a
}

func (c *cursor) complexNumber() complex128 {
	re := c.number()
	im := c.number()
	return complex(re, im)
}

func (c *cursor) text(most int) string {
	s, behind, e := wire.ReadText(c.b, c.at, most)
	c.pass(behind, e)
	return s
}

// list is n things that are read one behind the other. It grows as they come: bytes that only say that much follows get no room for it.
func list[T any](n int, read func() T) []T {
	var all []T
	for range n {
		all = append(all, read())
	}
	return all
}
