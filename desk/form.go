package desk

import (
	"strings"

	"ambit/text"
)

// args are what the words behind a command's name say; which of them, its form tells.
type args struct {
	literal string
	bytes   []byte
	wholes  []int
	numbers []float64
}

// A form reads the words behind a command's name; false, if they do not fit.
type form func(words []word) (args, bool)

// bare is for no words at all.
func bare(words []word) (args, bool) { return args{}, len(words) == 0 }

// oneLiteral is for a literal.
func oneLiteral(words []word) (args, bool) {
	if len(words) != 1 || !words[0].literal {
		return args{}, false
	}
	return args{literal: words[0].text}, true
}

// oneHex is for a literal of hexadecimal digits, two a byte.
func oneHex(words []word) (args, bool) {
	a, ok := oneLiteral(words)
	if !ok {
		return args{}, false
	}
	b, ok := bytesOf(a.literal)
	return args{bytes: b}, ok
}

// wholes is for so many whole numbers.
func wholes(count int) form {
	return func(words []word) (args, bool) {
		if len(words) != count {
			return args{}, false
		}
		return anyWholes(words)
	}
}

// anyWholes is for whole numbers, however many.
func anyWholes(words []word) (args, bool) {
	l, ok := each(words, text.Whole)
	return args{wholes: l}, ok
}

// anyNumbers is for numbers, however many.
func anyNumbers(words []word) (args, bool) {
	l, ok := each(words, text.Number)
	return args{numbers: l}, ok
}

// each reads every word; false, if one of them is a literal, or can't be read.
func each[T any](words []word, read func(s string) (T, bool)) ([]T, bool) {
	var all []T
	for _, w := range words {
		v, ok := read(w.text)
		if !ok || w.literal {
			return nil, false
		}
		all = append(all, v)
	}
	return all, true
}

// digits are those that bytes are written with.
const digits = "0123456789abcdef"

// bytesOf are the bytes of hexadecimal digits; false, if they are odd in number, or others.
func bytesOf(s string) ([]byte, bool) {
	if len(s)%2 != 0 {
		return nil, false
	}
	b := make([]byte, 0, len(s)/2)
	for i := 0; i < len(s); i += 2 {
		high, low := strings.IndexByte(digits, s[i]), strings.IndexByte(digits, s[i+1])
		if high < 0 || low < 0 {
			return nil, false
		}
		b = append(b, byte(high<<4|low))
	}
	return b, true
}
