package desk

import (
	"slices"
	"strconv"
	"strings"

	"ambit/api"
	"ambit/point"
	"ambit/text"
)

// noNumber is what stands where there is none.
const noNumber = "bad"

// answer is the answer to a line that was done.
func answer(words ...string) string {
	return strings.Join(append([]string{"ok"}, words...), " ")
}

// bad is the answer where what was asked for has no numbers.
func bad() string { return answer(noNumber) }

// refused is the answer to a line that was not done, with the place of what is wrong, if one is told.
func refused(e api.Errno, at ...int) string {
	return strings.Join(append([]string{e.Error()}, decimals(at...)...), " ")
}

func decimals(l ...int) []string {
	var all []string
	for _, n := range l {
		all = append(all, strconv.Itoa(n))
	}
	return all
}

// digitsOf are bytes in hexadecimal digits.
func digitsOf(b []byte) string {
	var s strings.Builder
	for _, c := range b {
		s.WriteByte(digits[c>>4])
		s.WriteByte(digits[c&15])
	}
	return s.String()
}

// verdict is a verdict in words.
func verdict(v api.Verdict) []string {
	switch v.Kind {
	case api.Robust:
		return append([]string{"robust", text.Hex(v.Margin)}, decimals(v.Looked)...)
	case api.Falsified:
		return slices.Concat([]string{"falsified"}, decimals(v.Claim), []string{text.Hex(v.Margin)}, decimals(v.Looked), decimals(v.E...))
	}
	return append([]string{"unknown"}, decimals(v.Open, v.Bad, v.Looked)...)
}

// spans is the answer that has the ends of each span, unless one of them is bad.
func spans(l []api.Span) string {
	var all []string
	for _, s := range l {
		if s.Bad {
			return bad()
		}
		all = append(all, text.Hex(s.Lo), text.Hex(s.Hi))
	}
	return answer(all...)
}

// rounded is the number that is told for an exact one.
func rounded(d api.Dir, y api.Dyad) string {
	a, told := point.Round(d, y)
	if !told {
		return noNumber
	}
	return text.Hex(a)
}
