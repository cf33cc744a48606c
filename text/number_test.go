package text

import (
	"math"
	"math/big"
	"regexp"
	"strconv"
	"strings"
	"testing"

	"ambit/api"
	"ambit/oracle"
)

func noughts(n int) string { return strings.Repeat("0", n) }

// manyNumbers are numbers at the edges, around every power of 2, and of any bits.
func manyNumbers() []float64 {
	l := oracle.Edges()
	for n := -1074; n <= 1023; n++ {
		a := math.Ldexp(1, n)
		for _, b := range []float64{a, math.Nextafter(a, 0), math.Nextafter(a, oracle.Max), 1.5 * a} {
			l = append(l, b, -b)
		}
	}
	var m oracle.Mixer
	for len(l) < 60000 {
		if a := api.Float(m.Word()); !math.IsNaN(a) && !math.IsInf(a, 0) {
			l = append(l, a)
		}
		// Of these the low bits are noughts, more or fewer.
		l = append(l, m.Number(m.Below(2100)-1080), api.Float(m.Word()>>12<<m.Below(50)&math.MaxInt64>>1))
	}
	return l
}

// 9.1
func TestHex(t *testing.T) {
	form := regexp.MustCompile(`^-?0x(0|1(\.[0-9a-f]{0,12}[1-9a-f])?)p[+-](0|[1-9][0-9]{0,3})$`)
	for _, a := range manyNumbers() {
		if s := Hex(a); s != hexOf(a) || !form.MatchString(s) {
			t.Fatalf("Hex(%x): %q, not %q", api.Bits(a), s, hexOf(a))
		}
	}
	for _, c := range []struct {
		a    float64
		want string
	}{
		{0, "0x0p+0"}, {-1, "-0x1p+0"}, {1.5, "0x1.8p+0"}, {0.5, "0x1p-1"}, {1024, "0x1p+10"}, {0x1p-10, "0x1p-10"}, {0x1p100, "0x1p+100"},
		{1 + 0x1p-52, "0x1.0000000000001p+0"}, {-(2 - 0x1p-52), "-0x1.fffffffffffffp+0"}, {0x1.0abcdefp5, "0x1.0abcdefp+5"},
		{oracle.Max, "0x1.fffffffffffffp+1023"}, {-oracle.Max, "-0x1.fffffffffffffp+1023"},
		{0x1p-1022, "0x1p-1022"}, {0x1p-1022 - oracle.Least, "0x1.ffffffffffffep-1023"}, {3 * oracle.Least, "0x1.8p-1073"}, {-oracle.Least, "-0x1p-1074"},
	} {
		if s := Hex(c.a); s != c.want {
			t.Errorf("Hex(%x): %q, not %q", c.a, s, c.want)
		}
	}
	for _, a := range oracle.NoNumbers() {
		if s := Hex(a); s != "" {
			t.Errorf("Hex(%v): %q", a, s)
		}
	}
}

// 9.2: every text of a few bytes.
func TestShortTexts(t *testing.T) {
	for _, c := range []struct {
		bytes  string
		length int
	}{{"-+.019aexp", 5}, {"-+.01exp", 6}, {"0x1p.f", 7}} {
		b := make([]byte, c.length)
		var all func(n int)
		all = func(n int) {
			expectTwin(t, string(b[:n]))
			for i := 0; n < len(b) && i < len(c.bytes); i++ {
				b[n] = c.bytes[i]
				all(n + 1)
			}
		}
		all(0)
		if t.Failed() {
			return
		}
	}
}

// 9.2: both forms, each part there or not.
func TestForms(t *testing.T) {
	for _, sign := range []string{"", "-"} {
		for _, behind := range []string{"", ".5", ".50", ".0"} {
			for _, power := range []string{"", "0", "+0", "-0", "3", "+3", "-3", "0003", "-0012"} {
				if power != "" {
					expectNear(t, sign+"12"+behind+"e"+power)
					expectNear(t, sign+"0xc"+behind+"p"+power)
					expectNumberIs(t, sign+"12"+behind+"e"+power)
					expectNumberIs(t, sign+"0xc"+behind+"p"+power)
				} else {
					expectNumberIs(t, sign+"12"+behind)
					expectNoNumber(t, sign+"0xc"+behind)
				}
			}
		}
	}
	for _, s := range []string{
		"", "-", "--1", "+1", "-+1", ".", ".5", "5.", "-.5", "5.e1", ".e1", "1.2.3", "1..2", "1e", "1e+", "1e-", "1e+-1", "1e--1", "1e1.0", "1e1e1", "e1", "-e1", "1p1", "1e0x1",
		"1e00000", "1e00001", "1e12345", "1e-00001", "1E1", "1e1 ", " 1", "1 ", "1\n", "1\x00", "\x001", "1_0", "1,0", "0_1", "1f", "inf", "-inf", "nan", "NaN", "Infinity", "0b1", "0o7", "1i", "a", "1a",
		"0x", "-0x", "0x1", "0x.8p1", "0x1.p1", "0xp1", "0x1p", "0x1p+", "0x1p00000", "0x1p-12345", "0X1p1", "0x1P1", "0xAp1", "0xgp1", "0x1e1", "0x1.8", "0x1p1.0", "0x1pa", "0x-1p1", "0x0x1p1", "00x1p1", "x1p1", "0x1p1p1", "0x1_0p1", "1x1p1",
		"１", "٣", "1e１", "−1",
	} {
		expectNoNumber(t, s)
	}
	expectNumber(t, "0x1e1p0", 0x1e1)
	expectNumber(t, "0xabc.defp0", 0xabc.defp0)
	expectNumber(t, "0x0123456789p+0", 0x0123456789)
	expectNumber(t, "0123456789.9876543210e0", 123456789.987654321)
}

// expectNumberIs holds Number to telling a number at all.
func expectNumberIs(t *testing.T, s string) {
	t.Helper()
	if _, ok := Number(s); !ok {
		t.Errorf("Number(%q) is none", s)
	}
}

// 9.2: whatever byte stands wherever.
func TestEveryByteInATextOfANumber(t *testing.T) {
	for _, s := range []string{"-12.5e-3", "-0xa.cp+12", "0", "7e7"} {
		for i := range len(s) + 1 {
			for c := range 256 {
				put := s[:i] + string([]byte{byte(c)}) + s[i:]
				expectTwin(t, put)
				if i < len(s) {
					expectTwin(t, s[:i]+put[i:i+1]+s[i+1:])
				}
			}
			expectTwin(t, s[:i])
			expectTwin(t, s[i:])
		}
	}
}

// around are decimal and hexadecimal texts of a real, and of ones a very little above and below it.
func around(v *big.Rat) []string {
	exact := decimals(v)
	if !strings.Contains(exact, ".") {
		exact += ".0"
	}
	places := len(exact) - strings.Index(exact, ".")
	below := new(big.Rat).Sub(v, raised(10, -places))
	return []string{exact, withPower(exact), exact + "0001", exact + noughts(1090-len(exact)) + "1", withPower(exact + "1"), withPower(below.FloatString(places))}
}

// 9.2, 9.8: ties between two neighbours go to the even one; what is a little off does not.
func TestTies(t *testing.T) {
	var m oracle.Mixer
	places := []int{0, 1, 2, 3, oracle.Ends() - 1, oracle.Ends() - 2, int(api.Bits(1)), int(api.Bits(1)) - 1, int(api.Bits(0x1p-1022)), int(api.Bits(0x1p-1022)) - 1, int(api.Bits(0x1p-1022)) - 2, int(api.Bits(0x1p53))}
	for range 60 {
		places = append(places, m.Below(oracle.Ends()))
	}
	for _, place := range places {
		a, b := oracle.NumberAt(place), oracle.NumberAt(place+1)
		texts := around(middle(oracle.Exact(a), oracle.Exact(b)))
		even := a
		if place%2 != 0 {
			even = b
		}
		for i, want := range []float64{even, even, b, b, b, a} {
			if len(texts[i]) > api.MaxDigits {
				t.Fatalf("%s is too long", texts[i])
			}
			expectNumber(t, texts[i], want)
			expectNumber(t, "-"+texts[i], math.Copysign(want, -1))
		}
		expectNear(t, texts[m.Below(len(texts))])
	}
}

// 9.2: ties in hexadecimal digits.
func TestHexadecimalTies(t *testing.T) {
	for _, c := range []struct {
		s    string
		want float64
	}{
		{"0x1.00000000000008p0", 1}, {"0x1.00000000000018p0", 1 + 0x1p-51}, {"0x1.000000000000080000000000000000000000001p0", 1 + 0x1p-52},
		{"0x1.00000000000007ffffffffffffffffffffffffffp0", 1}, {"0x0.8p-1074", 0}, {"0x0.80000000000000000000001p-1074", oracle.Least}, {"0x1.8p-1074", 2 * oracle.Least},
		{"0x0.7ffffffffffffffffffffp-1074", 0}, {"0x2.8p-1074", 2 * oracle.Least}, {"0x1p-1075", 0}, {"0x1.0000000001p-1075", oracle.Least}, {"0x1p-1076", 0}, {"0x1.fffffffffffffp-1076", 0},
		{"0xfffffffffffff.8p-1074", 0x1p-1022}, {"0x1.fffffffffffff7ffffffp1023", oracle.Max},
	} {
		expectNumber(t, c.s, c.want)
		expectNumber(t, "-"+c.s, math.Copysign(c.want, -1))
	}
	expectNoNumber(t, "0x1.fffffffffffff8p1023")
	expectNoNumber(t, "-0x1.fffffffffffff8p1023")
	expectNoNumber(t, "0x1p1024")
}

// 9.2: the ends of what has a nearest number.
func TestEndsOfNumbers(t *testing.T) {
	bound := new(big.Rat).Sub(oracle.Power(1024), oracle.Power(970))
	exact := bound.FloatString(0)
	for _, s := range []string{exact, exact + ".0", exact + "e0", exact + "00e-2", exact + ".00000001", "1" + exact, "1e309", "2e308", "1.8e308", "1e9999", "0x1p9999", "1" + noughts(1000)} {
		expectNoNumber(t, s)
		expectNoNumber(t, "-"+s)
		expectNear(t, s)
	}
	less := new(big.Rat).Sub(bound, big.NewRat(1, 1)).FloatString(0)
	for _, s := range []string{less, less + ".99999999999", less + strings.Repeat("9", 700) + "e-700", "1.7976931348623157e308", "17976931348623158" + noughts(292)} {
		expectNumber(t, s, oracle.Max)
		expectNumber(t, "-"+s, -oracle.Max)
		expectNear(t, s)
	}
	half := decimals(oracle.Power(-1075))
	expectNumber(t, half, 0)
	expectNumber(t, "-"+half, oracle.MinusZero())
	expectNumber(t, half+"1", oracle.Least)
	expectNumber(t, "-"+half+"1", -oracle.Least)
	expectNumber(t, withPower(half), 0)
	expectNumber(t, withPower(half+"1"), oracle.Least)
	for _, s := range []string{"2.4e-324", "2.47e-324", "1e-324", "9.99e-325", "1e-325", "1e-400", "1e-9999", "0x1p-9999", "0." + noughts(1090) + "1"} {
		expectNumber(t, s, 0)
		expectNumber(t, "-"+s, oracle.MinusZero())
		expectNear(t, s)
	}
	for _, s := range []string{"2.48e-324", "2.5e-324", "4.9e-324", "7e-324"} {
		expectNumber(t, s, oracle.Least)
	}
}

// 9.2, 9.8: noughts, with either sign, however they are written.
func TestNoughts(t *testing.T) {
	for _, s := range []string{"0", "00", "0.0", "0e0", "0e9999", "0e-9999", "0.000e+9999", "0x0p0", "0x0p9999", "0x00.00p-9999", noughts(1000) + "." + noughts(90), noughts(1090) + "e9999"} {
		expectNumber(t, s, 0)
		expectNumber(t, "-"+s, oracle.MinusZero())
	}
}

// 9.2: powers far off, that digits bring back.
func TestFarPowers(t *testing.T) {
	for _, n := range []int{1, 17, 300, 310, 324, 340, 700, 1000, 1080} {
		power := strconv.Itoa(n)
		for _, digits := range []string{"1", "17", "9007199254740993", "1797693134862315"} {
			want, _ := strconv.ParseFloat(digits, 64)
			if n+len(digits) < 1090 {
				expectNumber(t, digits+noughts(n)+"e-"+power, want)
			}
			expectNumber(t, "0."+noughts(max(0, n-len(digits)))+digits+"e"+strconv.Itoa(max(n, len(digits))), want)
		}
		expectNumber(t, "0x1"+noughts(n)+"p-"+strconv.Itoa(4*n), 1)
		expectNumber(t, "0x0."+noughts(n-1)+"8p"+strconv.Itoa(4*n), 8)
		expectNumber(t, "0x"+noughts(n)+"3p-1", 1.5)
	}
	expectNumber(t, "1"+noughts(1090)+"e-1400", 1e-310)
	expectNumber(t, "0."+noughts(1080)+"1e1381", 1e300)
	expectNumber(t, "-1"+noughts(1080)+"e-1404", oracle.MinusZero())
	expectNumber(t, "3"+noughts(1080)+"e-1404", oracle.Least)
	expectNumber(t, "0."+noughts(1080)+"17e1389", 1.7e308)
	expectNoNumber(t, "0."+noughts(1080)+"18e1389")
	expectNumber(t, "0x1"+noughts(1000)+"p-5074", oracle.Least)
	expectNumber(t, "0x0."+noughts(999)+"1p5023", 0x1p1023)
	expectNoNumber(t, "0x0."+noughts(999)+"1p5024")
}

// 9.2: decimals of hundreds of digits.
func TestManyDigits(t *testing.T) {
	for _, n := range []int{20, 100, 767, 768, 769, 799, 800, 801, 1000, 1080} {
		nines, digits := strings.Repeat("9", n), strings.Repeat("1234567890", n/10+1)[:n]
		for _, power := range []int{0, -n, -n - 300, -n - 310, -n - 320, -n - 324, -n + 308, -9999} {
			for _, s := range []string{nines, digits, "7." + digits, "0.0" + nines} {
				expectNear(t, s+"e"+strconv.Itoa(power))
			}
		}
		expectNumber(t, nines+"e-"+strconv.Itoa(n), 1)
		expectNumber(t, "0."+nines, 1)
		expectNumber(t, "0x0."+strings.Repeat("f", n)+"p0", 1)
		expectNumber(t, "1."+noughts(n)+"1", 1)
		expectNumber(t, "9007199254740993."+noughts(n)+"1", 0x1p53+2)
		expectNumber(t, "9007199254740992."+nines, 0x1p53)
		expectNumber(t, "0x20000000000001."+noughts(n)+"1p0", 0x1p53+2)
	}
}

// 9.2: texts of MaxDigits bytes, and of one more.
func TestMaxDigits(t *testing.T) {
	for _, form := range []string{"1%e-1000", "%1", "-%1", "0.%", "-1.%", "0x%1p0", "-0x1.%p+0", "0x1%p-4000", "%1e-9999", "1e%", "0x1p%"} {
		fits := strings.Replace(form, "%", noughts(api.MaxDigits+1-len(form)), 1)
		if len(fits) != api.MaxDigits {
			t.Fatal("another length")
		}
		more := strings.Replace(form, "%", noughts(api.MaxDigits+2-len(form)), 1)
		expectNear(t, fits)
		expectTwin(t, fits)
		expectNoNumber(t, more)
		if !strings.Contains(form, "e%") && !strings.Contains(form, "p%") {
			expectNumberIs(t, fits)
		}
	}
}

// mixedNumeral is the text of a number, or nearly one.
func mixedNumeral(m *oracle.Mixer) string {
	digits, mark := "0123456789", "e"
	var s strings.Builder
	if m.Below(3) == 0 {
		s.WriteByte('-')
	}
	if m.Below(3) == 0 {
		digits, mark = "0123456789abcdef", "p"
		s.WriteString("0x")
	}
	some := func(least int) {
		for range least + m.Below([]int{2, 5, 20, 40, 400}[m.Below(5)]) {
			s.WriteByte(digits[m.Below(len(digits))])
		}
	}
	s.WriteString(noughts(m.Below(3)))
	some(1)
	if m.Below(2) == 0 {
		s.WriteString("." + noughts(m.Below(3)*m.Below(300)))
		some(1)
	}
	if mark == "p" || m.Below(4) > 0 {
		s.WriteString(mark + []string{"", "+", "-", "-"}[m.Below(4)])
		s.WriteString(strconv.Itoa(m.Below([]int{10, 40, 330, 1200, 10000}[m.Below(5)])))
	}
	return s.String()
}

// 9.2, 9.8
func TestMixedNumerals(t *testing.T) {
	var m oracle.Mixer
	told := 0
	for i := range 150000 {
		s := mixedNumeral(&m)
		expectTwin(t, s)
		if i%200 == 0 {
			expectNear(t, s)
		}
		if a, ok := Number(s); ok && a != 0 {
			told++
		}
		if t.Failed() {
			return
		}
	}
	if told < 50000 {
		t.Errorf("only %d were numbers beside 0", told)
	}
}

// 9.3
func TestWhole(t *testing.T) {
	form := regexp.MustCompile(`^(0|-?[1-9][0-9]*)$`)
	expect := func(s string) {
		t.Helper()
		v, _ := new(big.Int).SetString(s, 10)
		is := form.MatchString(s) && v.IsInt64()
		want := 0
		if is {
			want = int(v.Int64())
		}
		if n, ok := Whole(s); n != want || ok != is {
			t.Errorf("Whole(%s): %d %v, not %d %v", shown(s), n, ok, want, is)
		}
	}
	const bytes = "-+0129_ .x"
	b := make([]byte, 5)
	var all func(n int)
	all = func(n int) {
		expect(string(b[:n]))
		for i := 0; n < len(b) && i < len(bytes); i++ {
			b[n] = bytes[i]
			all(n + 1)
		}
	}
	all(0)
	for _, s := range []string{
		"9223372036854775807", "9223372036854775808", "9223372036854775806", "-9223372036854775808", "-9223372036854775809", "-9223372036854775807", "18446744073709551616", "18446744073709551617", "-18446744073709551616",
		"1" + noughts(100), "-1" + noughts(100000), noughts(100) + "1", "1e3", "0x1p+0", "0x10", "1\n", "\t1", "1\x00", "１", "10_000", "007", "-007",
	} {
		expect(s)
	}
	for _, n := range []int{math.MaxInt, math.MinInt, math.MaxInt - 1, math.MinInt + 1, 0, 7, -7, 10, 100, -1000, 1 << 32} {
		if got, ok := Whole(strconv.Itoa(n)); got != n || !ok {
			t.Errorf("Whole(%d): %d %v", n, got, ok)
		}
	}
	for c := range 256 {
		expect(string([]byte{byte(c)}))
		expect("1" + string([]byte{byte(c)}) + "2")
	}
}

// 9.7
func TestNumberOfHex(t *testing.T) {
	for _, a := range manyNumbers() {
		expectNumber(t, Hex(a), a)
		if t.Failed() {
			return
		}
	}
}
