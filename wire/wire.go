// Package wire is numbers, texts and sums in bytes: see DOC.md, chapter 1.
package wire

import (
	"bytes"
	"unicode/utf8"

	"ambit/api"
)

const (
	groupBits = 7    // bits of a whole number that one byte carries
	more      = 0x80 // the bit that tells of a further group
	maxGroups = 9    // so that every number read fits an int

	floatBytes = 8
	wordBytes  = 4
	headBytes  = 2 * wordBytes // a frame's length, and the sum of it

	polynomial = 0x82f63b78 // CRC-32C, for a register that goes down
)

// Uint writes a whole number from 0 on.
func Uint(n int) ([]byte, api.Errno) {
	if n < 0 {
		return nil, api.ErrArg
	}
	return groups(n), api.OK
}

// groups is a number from 0 on, seven bits a byte, the lowest first.
func groups(n int) []byte {
	b := make([]byte, 0, maxGroups)
	for ; n >= more; n >>= groupBits {
		b = append(b, byte(n)|more)
	}
	return append(b, byte(n))
}

// ReadUint reads one, and tells the place behind it.
func ReadUint(b []byte, at int) (int, int, api.Errno) {
	if outside(b, at) {
		return 0, 0, api.ErrArg
	}
	rest := b[at:]
	n := 0
	for i := range maxGroups {
		if i == len(rest) {
			return 0, 0, api.ErrShort
		}
		group := rest[i]
		if group >= more {
			n |= int(group-more) << (groupBits * i)
			continue
		}
		if group == 0 && i > 0 {
			return 0, 0, api.ErrForm
		}
		return n | int(group)<<(groupBits*i), at + i + 1, api.OK
	}
	return 0, 0, api.ErrWide
}

// Float writes a number in eight bytes.
func Float(a float64) ([]byte, api.Errno) {
	u := api.Bits(a)
	if !isNumber(u) {
		return nil, api.ErrFloat
	}
	return appendLow(nil, u, floatBytes), api.OK
}

// ReadFloat reads one, and tells the place behind it.
func ReadFloat(b []byte, at int) (float64, int, api.Errno) {
	if outside(b, at) {
		return 0, 0, api.ErrArg
	}
	rest := b[at:]
	if len(rest) < floatBytes {
		return 0, 0, api.ErrShort
	}
	u := low(rest[:floatBytes])
	if !isNumber(u) {
		return 0, 0, api.ErrFloat
	}
	return api.Float(u), at + floatBytes, api.OK
}

// Runes tells how many code points a text has, and whether it is one.
func Runes(s string) (int, bool) {
	n := 0
	for i, r := range s {
		if r == utf8.RuneError && broken(s[i:]) {
			return 0, false
		}
		n++
	}
	return n, true
}

// broken tells a byte that is of no code point from the code point fffd, which range tells for both: only the latter is as wide as it is written.
func broken(s string) bool {
	_, width := utf8.DecodeRuneInString(s)
	return width < utf8.RuneLen(utf8.RuneError)
}

// Text writes a text with its length ahead.
func Text(s string) ([]byte, api.Errno) {
	if _, ok := Runes(s); !ok {
		return nil, api.ErrUTF
	}
	return append(groups(len(s)), s...), api.OK
}

// ReadText reads one of at most so many bytes, and tells the place behind it.
func ReadText(b []byte, at, most int) (string, int, api.Errno) {
	if outside(b, at) || most < 0 {
		return "", 0, api.ErrArg
	}
	n, begin, e := ReadUint(b, at)
	if e != api.OK {
		return "", 0, e
	}
	if n > most {
		return "", 0, api.ErrBig
	}
	if n > len(b)-begin {
		return "", 0, api.ErrShort
	}
	s := string(b[begin : begin+n])
	if _, ok := Runes(s); !ok {
		return "", 0, api.ErrUTF
	}
	return s, begin + n, api.OK
}

// Sum is the check sum of the parts, one behind the other.
func Sum(parts ...[]byte) uint32 {
	table := halfByteTable()
	register := ^uint32(0)
	for _, part := range parts {
		for _, c := range part {
			register ^= uint32(c)
			register = register>>4 ^ table[register&15]
			register = register>>4 ^ table[register&15]
		}
	}
	return ^register
}

// halfByteTable is what the register's lowest four bits make of it on their way out.
func halfByteTable() [16]uint32 {
	var table [16]uint32
	for i := range table {
		register := uint32(i)
		for range 4 {
			if register&1 == 1 {
				register = register>>1 ^ polynomial
			} else {
				register >>= 1
			}
		}
		table[i] = register
	}
	return table
}

// Frame writes a body with its length and both sums.
func Frame(body []byte) ([]byte, api.Errno) {
	if len(body) > api.MaxFile {
		return nil, api.ErrLong
	}
	f := make([]byte, 0, headBytes+len(body)+wordBytes)
	f = appendLow(f, uint64(len(body)), wordBytes)
	f = appendLow(f, uint64(Sum(f)), wordBytes)
	f = append(f, body...)
	return appendLow(f, uint64(Sum(body)), wordBytes), api.OK
}

// ReadFrame reads one, and tells the place behind it.
func ReadFrame(b []byte, at int) ([]byte, int, api.Errno) {
	if outside(b, at) {
		return nil, 0, api.ErrArg
	}
	rest := b[at:]
	if len(rest) < headBytes {
		return nil, 0, api.ErrShort
	}
	if !sumHolds(rest[:headBytes]) {
		return nil, 0, api.ErrSum
	}
	length := low(rest[:wordBytes])
	if length > api.MaxFile {
		return nil, 0, api.ErrBig
	}
	n := int(length)
	rest = rest[headBytes:]
	if len(rest) < n+wordBytes {
		return nil, 0, api.ErrShort
	}
	if !sumHolds(rest[:n+wordBytes]) {
		return nil, 0, api.ErrSum
	}
	return bytes.Clone(rest[:n]), at + headBytes + n + wordBytes, api.OK
}

// sumHolds tells whether the last four bytes are the sum of those ahead of them.
func sumHolds(b []byte) bool {
	n := len(b) - wordBytes
	return low(b[n:]) == uint64(Sum(b[:n]))
}

// outside tells whether at is no place of b; the place behind its last byte is one.
func outside(b []byte, at int) bool { return at < 0 || at > len(b) }

// isNumber tells whether these are the bits of neither NaN nor an infinity: those have all bits of the exponent set.
func isNumber(u uint64) bool { return u>>52&0x7ff != 0x7ff }

// appendLow lays the lowest bytes of u behind b, the lowest first.
func appendLow(b []byte, u uint64, count int) []byte {
	for range count {
		b = append(b, byte(u))
		u >>= 8
	}
	return b
}

// low is the number that lies in b, its lowest byte first.
func low(b []byte) uint64 {
	u := uint64(0)
	for i, c := range b {
		u |= uint64(c) << (8 * i)
	}
	return u
}
