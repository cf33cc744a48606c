package text

import (
	"math"
	"math/big"
	"regexp"
	"strconv"
	"strings"
	"testing"

	"ambit/api"
	"ambit/oracle"
)

// The two forms of a number's text: a sign, the digits ahead of and behind the point, a power's sign and its digits.
var (
	decimalForm     = regexp.MustCompile(`^(-?)([0-9]+)(?:\.([0-9]+))?(?:e([+-]?)([0-9]{1,4}))?$`)
	hexadecimalForm = regexp.MustCompile(`^(-?)0x([0-9a-f]+)(?:\.([0-9a-f]+))?p([+-]?)([0-9]{1,4})$`)
)

// hasForm tells whether a text is one of a number, by the document's words.
func hasForm(s string) bool {
	return len(s) <= 1100 && (decimalForm.MatchString(s) || hexadecimalForm.MatchString(s))
}

// raised is base to the n.
func raised(base int64, n int) *big.Rat {
	v := new(big.Rat).SetInt(new(big.Int).Exp(big.NewInt(base), big.NewInt(int64(max(n, -n))), nil))
	if n < 0 {
		v.Inv(v)
	}
	return v
}

// exactOf is the exact value of a text that has one of the forms.
func exactOf(s string) *big.Rat {
	digit, base, parts := int64(10), int64(10), decimalForm.FindStringSubmatch(s)
	if parts == nil {
		digit, base, parts = 16, 2, hexadecimalForm.FindStringSubmatch(s)
	}
	whole, _ := new(big.Int).SetString(parts[2]+parts[3], int(digit))
	v := new(big.Rat).SetInt(whole)
	v.Mul(v, raised(digit, -len(parts[3])))
	if power, err := strconv.Atoi(parts[4] + parts[5]); err == nil {
		v.Mul(v, raised(base, power))
	}
	if parts[1] == "-" {
		v.Neg(v)
	}
	return v
}

// signed is a number with the sign that a text says.
func signed(a float64, s string) float64 {
	if strings.HasPrefix(s, "-") {
		return math.Copysign(a, -1)
	}
	return a
}

// expectNear holds Number to near of a text's exact value: slowly, among all numbers.
func expectNear(t *testing.T, s string) {
	t.Helper()
	if !hasForm(s) {
		expectNoNumber(t, s)
		return
	}
	r := oracle.Roundings(exactOf(s))
	if !r.Is[api.Near] {
		expectNoNumber(t, s)
		return
	}
	expectNumber(t, s, signed(r.Number[api.Near], s))
}

// twinNumber is what Number must tell, by another way that is fast.
func twinNumber(s string) (float64, bool) {
	if !hasForm(s) {
		return 0, false
	}
	a, err := strconv.ParseFloat(s, 64)
	return a, err == nil && !math.IsInf(a, 0)
}

// expectTwin holds Number to its twin.
func expectTwin(t *testing.T, s string) {
	t.Helper()
	if a, ok := twinNumber(s); ok {
		expectNumber(t, s, a)
	} else {
		expectNoNumber(t, s)
	}
}

// decimals is the exact decimal text of a number of halves, without a power.
func decimals(v *big.Rat) string {
	places := v.Denom().BitLen() - 1
	return v.FloatString(places)
}

// withPower is a decimal text without its point and the noughts ahead, with the power that they make.
func withPower(s string) string {
	sign := ""
	if strings.HasPrefix(s, "-") {
		sign, s = "-", s[1:]
	}
	whole, fraction, _ := strings.Cut(s, ".")
	digits := strings.TrimLeft(whole+fraction, "0")
	if digits == "" {
		digits = "0"
	}
	return sign + digits + "e-" + strconv.Itoa(len(fraction))
}

// middle is what lies in the middle between two reals.
func middle(a, b *big.Rat) *big.Rat {
	v := new(big.Rat).Add(a, b)
	return v.Mul(v, big.NewRat(1, 2))
}

// hexOf is a number's text, made of the one that the library has: that has a nought ahead of a power of one digit.
func hexOf(a float64) string {
	s := strconv.FormatFloat(a, 'x', -1, 64)
	if last := len(s) - 2; s[last] == '0' && (s[last-1] == '+' || s[last-1] == '-') {
		return s[:last] + s[last+1:]
	}
	return s
}
