package audit

import (
	"bytes"
	"slices"

	"ambit/api"
	"ambit/split"
	"ambit/wire"
)

// What an account begins with, the version behind that, and how long a sum is.
const (
	magic    = "AMBA"
	version  = 1
	sumBytes = 4
)

// A heading is what an account tells ahead of its tree: the sums of the network and the question of which it speaks, and the margin.
type heading struct {
	net, prop []byte
	margin    float64
}

// written is the account of a heading and a tree.
func written(h heading, tree []byte) []byte {
	// The margin is a verdict's, so that it is a number.
	margin, _ := wire.Float(h.margin)
	b := slices.Concat([]byte(magic), []byte{version}, h.net, h.prop, margin, tree)
	return append(b, sumOf(b)...)
}

// sumOf is the sum of bytes as it stands behind them, the lowest byte first.
func sumOf(b []byte) []byte {
	s := wire.Sum(b)
	return []byte{byte(s), byte(s >> 8), byte(s >> 16), byte(s >> 24)}
}

// sumBehind is the sum at the end of a form that was decoded.
func sumBehind(form []byte) []byte { return form[len(form)-sumBytes:] }

// A refusal is what a reader gives up with.
type refusal struct{ e api.Errno }

// refuseIf gives up, wherever a reader is: it is for the face to recover that.
func refuseIf(wrong bool, e api.Errno) {
	if wrong {
		panic(refusal{e})
	}
}

// errorOf is the error of the refusal that was thrown. Whatever else was thrown is a fault of the program, and must not pass for an answer.
func errorOf(thrown any) api.Errno {
	why, ok := thrown.(refusal)
	if !ok {
		panic(thrown)
	}
	return why.e
}

// A reader reads an account from its beginning on.
type reader struct {
	b     []byte
	at    int          // the place of the next byte
	parts []api.Region // those so far
}

func (r *reader) heading() heading {
	refuseIf(len(r.b) > api.MaxFile, api.ErrLong)
	refuseIf(!bytes.HasPrefix(r.b, []byte(magic)), api.ErrMagic)
	r.at = len(magic)
	refuseIf(r.at == len(r.b) || r.b[r.at] != version, api.ErrVersion)
	r.at++
	return heading{net: r.sum(), prop: r.sum(), margin: r.number()}
}

// sum reads four bytes.
func (r *reader) sum() []byte {
	refuseIf(len(r.b)-r.at < sumBytes, api.ErrShort)
	r.at += sumBytes
	return r.b[r.at-sumBytes : r.at]
}

// pass goes on behind what wire read, or gives up.
func (r *reader) pass(behind int, e api.Errno) {
	refuseIf(e != api.OK, e)
	r.at = behind
}

func (r *reader) number() float64 {
	a, behind, e := wire.ReadFloat(r.b, r.at)
	r.pass(behind, e)
	return a
}

func (r *reader) whole() int {
	n, behind, e := wire.ReadUint(r.b, r.at)
	r.pass(behind, e)
	return n
}

// tree reads the tree over a region, and lays its parts behind those so far. How deep it goes is bounded, whatever the bytes are: no symbol is halved more than MaxDepth times.
func (r *reader) tree(over api.Region) {
	n := r.whole()
	if n == 0 {
		refuseIf(len(r.parts) == api.MaxLooks, api.ErrAccount)
		r.parts = append(r.parts, over)
		return
	}
	// Halve refuses a symbol that is none, and one that has been halved as often as may be.
	lower, upper, e := split.Halve(over, n-1)
	refuseIf(e != api.OK, api.ErrAccount)
	r.tree(lower)
	r.tree(upper)
}

// end holds the last sum against all that is ahead of it; nothing may be behind it.
func (r *reader) end() {
	want := sumOf(r.b[:r.at])
	refuseIf(!bytes.Equal(r.sum(), want), api.ErrSum)
	refuseIf(r.at < len(r.b), api.ErrRest)
}
