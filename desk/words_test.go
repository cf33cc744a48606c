package desk

import (
	"slices"
	"strconv"
	"strings"
	"testing"

	"ambit/api"
	"ambit/code"
	"ambit/samples"
)

// 22.3: blanks and tabs part words, and stand ahead of them and behind, as many as there are.
func TestBlanksPartWords(t *testing.T) {
	_, x, _ := desks(t)
	for _, gap := range []string{" ", "\t", "  ", "\t\t", " \t ", strings.Repeat(" \t", 1000)} {
		for _, edge := range []string{"", gap} {
			does(t, x, edge+"shape"+gap+"1"+edge, "ok 2 1 1", edge+"walk"+gap+"1"+gap+"2"+edge, "ok "+nums(3, 3, -1, -1), edge+strings.Replace(netLine, " ", gap, 1)+edge, "ok")
		}
	}
	// Whatever else looks like a blank is none.
	for _, other := range []string{"\n", "\r", "\v", "\f", "\x00", "\x1f", "\x7f", "\u0085", "\u00a0", "\u2003", "\u3000", "\ufeff", ","} {
		allAnswer(t, x, noCommand, "shape"+other+"1", "shape "+other+"1", "shape 1"+other, other+"shape 1", "shape 1 "+other, "shape "+other+" 1", other, " "+other+" ")
	}
}

// 22.3: a line without words is answered by the empty line.
func TestLinesWithoutWords(t *testing.T) {
	nothing, network, both := desks(t)
	for _, x := range []*Desk{nothing, network, both} {
		before := state(x)
		allAnswer(t, x, "", "", " ", "\t", " \t \t", "#", "##", "# a remark", "#forget", " # forget", "\t#\"", "# \"not closed \\", "#\x00\x01\x1f\x7f", "# é € 𝄞 \ufffd", "#\r", "# a\nforget", strings.Repeat("#", 65536))
		if got := state(x); got != before {
			t.Errorf("%s, not %s", got, before)
		}
	}
}

// 22.3: a # ends the line where a word might begin, and nowhere else.
func TestRemarks(t *testing.T) {
	_, x, _ := desks(t)
	for _, rest := range []string{" #", "\t#", " # behind", "   #1 2 3", " #\"", " ##", " # \x01 \r \\", " #é"} {
		does(t, x, "shape 1"+rest, "ok 2 1 1", "walk 1 2"+rest, "ok "+nums(3, 3, -1, -1), netLine+rest, "ok", "shape"+rest, noCommand, "shape 1 2"+rest, noCommand)
	}
	// Right behind a word none might begin.
	allAnswer(t, x, noCommand, "shape 1#", "shape 1# behind", "shape# 1", "shape#", "forget#", "forget#x", "walk 1 2#", netLine+"#", netLine+"# behind", `netof ""#`)
	// In a literal it stands for itself.
	does(t, x, `net "net 1 1 2 # a remark of the text\nend"`, "ok", "shape 0", "ok 1 1 2", `net "#"`, "error 92 2", `net "# \nend"`, "error 90 2")
}

// 22.3: words have something between them.
func TestWordsWithNothingBetween(t *testing.T) {
	_, x, _ := desks(t)
	allAnswer(t, x, noCommand,
		`net"net 1 1 1\nend"`, `net "net 1 1 1\nend"x`, `net "net 1 1 1\nend""`, `net "net 1 1 1\nend""" `, `net """"`, `net "" ""`, `net "a"1`, `net "a"#`, `net 1"a"`, `net x"a"`, `net "a"b"c"`, `net "a" "b"`,
		`shape"1"`, `shape 1"1"`, `shape "1"1`, `walk 1 2""`, `walk 1"" 2`, `walk 1,2`, `netof"4a"`, `netof "4a""4b"`, `"net""net 1 1 1\nend"`, `shape1`, `shape-1`, `trial-1`, `trial -1-1`, `walk 1-1`, `walk 1+1`)
	if got := state(x); !strings.HasPrefix(got, "ok 414d424e01010102") {
		t.Error(got)
	}
}

// 22.3: what literals stand for.
func TestWordsOfLines(t *testing.T) {
	bare := func(s string) word { return word{s, false} }
	quoted := func(s string) word { return word{s, true} }
	for _, c := range []struct {
		line string
		want []word
	}{
		{``, nil},
		{`#`, nil},
		{`a`, []word{bare("a")}},
		{` a	b1 -7 1e5 `, []word{bare("a"), bare("b1"), bare("-7"), bare("1e5")}},
		{`a ""`, []word{bare("a"), quoted("")}},
		{`a " "`, []word{bare("a"), quoted(" ")}},
		{`"a b"`, []word{quoted("a b")}},
		{`"a#b" "#" # "c"`, []word{quoted("a#b"), quoted("#")}},
		{`"\n" "\"" "\\"`, []word{quoted("\n"), quoted(`"`), quoted(`\`)}},
		{`"\n\n" "\\n" "\\\n" "\"\"" "\\\\"`, []word{quoted("\n\n"), quoted(`\n`), quoted("\\\n"), quoted(`""`), quoted(`\\`)}},
		{`"a\nb\"c\\d"`, []word{quoted("a\nb\"c\\d")}},
		{"\"é€𝄞\u007f\u0080\ufffd\ufffe\"", []word{quoted("é€𝄞\u007f\u0080\ufffd\ufffe")}},
		{`"n" n`, []word{quoted("n"), bare("n")}},
	} {
		if got, ok := wordsOf(c.line); !ok || !slices.Equal(got, c.want) {
			t.Errorf("%q: %+v %v, not %+v", c.line, got, ok, c.want)
		}
	}
}

// 22.3: a literal comes whole to the call beneath: names with every sort of character.
func TestLiteralsAreTakenWhole(t *testing.T) {
	for _, name := range []string{`"`, `\`, `\n`, `\"`, `\\`, `n`, `""`, "é", "€uro", "𝄞", "\ufffd", "a\"b\\c\"", strings.Repeat(`\`, 32), strings.Repeat("𝄞", 32), "!", "~", "\u00a1"} {
		n := samples.Named(netOf(1), name)
		net, _ := linesFor(t, n, api.Prop{})
		want, e, _ := code.EncodeNet(n)
		if e != api.OK {
			t.Fatalf("%q: %v", name, e)
		}
		does(t, New(), net, "ok", "netbytes", "ok "+hexOf(want))
	}
}

// 22.3: literals that are none.
func TestBrokenLiterals(t *testing.T) {
	_, _, x := desks(t)
	before := state(x)
	// Not closed.
	for _, s := range []string{`"`, `"a`, `"\"`, `"a\"`, `"\`, `"a\`, `"\\\"`, `"net 1 1 1\nend`, `"net 1 1 1\nend\"`, `"a" "`, `""""" "`, `" #`, `"a # b`} {
		allAnswer(t, x, noCommand, "net "+s, "prop "+s, "netof "+s, "check "+s, s, "forget "+s, s+" ", "net "+s+" ", "net "+s+"\t")
	}
	// A character below 20.
	for c := range 0x20 {
		s := string(rune(c))
		allAnswer(t, x, noCommand, `net "`+s+`"`, `net "net 1 1 1`+s+`end"`, `net "`+s+`net 1 1 1\nend"`, `net "net 1 1 1\nend`+s+`"`, `prop "`+s+`"`, `netof "`+s+`"`, `netof "4a`+s+`"`)
	}
	// Another escape.
	for c := range 0x180 {
		if s := string(rune(c)); !strings.Contains(`n"\`, s) {
			allAnswer(t, x, noCommand, `net "\`+s+`"`, `net "net 1 1 1\nend\`+s+`"`, `net "net 1 1 1\nend\`+s, `prop "\`+s+`n"`)
		}
	}
	allAnswer(t, x, noCommand, `net "\N"`, `net "\u0041"`, `net "\x41"`, `net "\061"`, `net "\n\t"`, `net "\ n"`, `net 'a'`, "net `a`", `net “a”`)
	if got := state(x); got != before {
		t.Errorf("%s, not %s", got, before)
	}
	// All others may stand in one: what is in it is for the call beneath.
	for _, s := range []string{" ", "!", "#", "~", "\u007f", "\u0080", "\u00a0", "é", "\u2028", "\ufeff", "\ufffd", "\uffff", "\U0010ffff", `\"`, `\\`} {
		does(t, x, `net "x`+s+`"`, "error 90 1", `net "x\n`+s+`"`, "error 90 1", `netof "`+s+`"`, noCommand)
	}
}

// 22.3: whole numbers, where one is meant.
func TestWholeNumbers(t *testing.T) {
	_, _, x := desks(t)
	does(t, x, "shape 0", "ok 1 1 2", "shape 1", "ok 2 1 1")
	// They are numbers, though there is no such output.
	for _, s := range []string{"2", "-1", "10", "-10", "907", "2147483648", "-2147483649", "4294967296", "9223372036854775807", "-9223372036854775807", "-9223372036854775808"} {
		allAnswer(t, x, "error 1", "shape "+s, "bounds "+s, "columns "+s, "shadow "+s+" 0 1", "shadow 1 0 "+s, "shadow 1 "+s+" 0")
		does(t, x, "trial "+s, "ok none")
		if s != "2" && s != "10" {
			allAnswer(t, x, "error 1", "verify "+s, "radius "+s)
		}
	}
	// They are none.
	for _, s := range []string{"00", "01", "-0", "-00", "-01", "007", "+1", "+0", "-", "--1", "1-", "1.0", "1.", "1e0", "0x1p+0", "0x0", "1_0", "0b1", "1,0", "a", "one", "é", "１", "٣", "9223372036854775808", "-9223372036854775809", "18446744073709551616", strings.Repeat("9", 1100), `"1"`, `""`, "1n", "0 0", ""} {
		allAnswer(t, x, noCommand, "shape "+s, "verify "+s, "radius "+s, "bounds "+s, "columns "+s, "shadow 0 0 "+s, "shadow "+s+" 0 0", "shadow 0 "+s+" 1")
		if s != "" && s != "0 0" {
			allAnswer(t, x, noCommand, "trial "+s, "trial 0 "+s, "trial "+s+" 0")
		}
	}
}

// 22.3: numbers, where one is meant: whole ones too.
func TestNumbers(t *testing.T) {
	_, x, _ := desks(t)
	for s, want := range map[string]float64{
		"0": 0, "-0": 0, "1": 1, "-7": -7, "007": 7, "-00": 0, "0.5": 0.5, "00.50": 0.5, "1e2": 100, "1e+2": 100, "1e-2": 0.01, "12.5e1": 125, "-1e0002": -100,
		"0x1p+0": 1, "0x1p0": 1, "-0x1.8p-1": -0.75, "0xffp4": 4080, "0.1": 0.1, "9223372036854775808": 0x1p63, "9007199254740993": 0x1p53, "2e-324": 0, "-2e-324": 0, "1e-9999": 0,
		strings.Repeat("0", 1099) + "3": 3, "0." + strings.Repeat("0", 1097) + "1": 0, "0x1p-1074": 0x1p-1074, "0x1.fffffffffffffp1023": 0x1.fffffffffffffp1023,
	} {
		does(t, x, "exact "+s+" 0", "ok "+nums(want, want, want, want), "walk 0 "+s, "ok "+nums(want, want, 0-want, 0-want))
	}
	for _, s := range []string{"1e400", "-1e400", "1e99999", "0x1p1024", ".5", "5.", "+1", "1E5", "1e", "1e+", "0x1", "0x1P0", "0X1p0", "0x.8p0", "0x1.p0", "0xAp0", "inf", "-inf", "nan", "NaN", "-", "--1", "1_000", "1,5", "0b1", "1i", "1f", "１", `"1"`, strings.Repeat("0", 1100) + "3", "0." + strings.Repeat("0", 1098) + "1"} {
		allAnswer(t, x, noCommand, "exact "+s+" 0", "walk 0 "+s, "walk "+s, "exact "+s, "walk 0 0 "+s)
	}
}

// 22.3, 22.4: the first word is the name of a command, just as it is written, and no literal.
func TestNames(t *testing.T) {
	nothing, network, both := desks(t)
	for _, x := range []*Desk{nothing, network, both} {
		before := state(x)
		for _, name := range names() {
			for _, other := range []string{strings.ToUpper(name), strings.ToUpper(name[:1]) + name[1:], "1" + name, name + "1", name + "0x", "-" + name, name + "-", name + "_", "_" + name, name[1:], name + name, name + ".", "é" + name, literalOf(name), name + ":"} {
				allAnswer(t, x, noCommand, other, other+" 1", other+` "4a"`, other+` ""`, other+" 0 0 1")
			}
		}
		allAnswer(t, x, noCommand, "stat", "a", "z9", "a0b1", "help", "quit", "exit", "ok", "error", "nil", "1", "-1", "0", "1.5", "0x1p0", `""`, `"a"`, "a b c", "1 verify", "1 1", strings.Repeat("a", 65536), strings.Repeat("a ", 32768))
		if got := state(x); got != before {
			t.Errorf("%s, not %s", got, before)
		}
	}
	// They have nothing to do with where a name stands.
	does(t, network, "shape shape", noCommand, "shape forget", noCommand, "forget shape", noCommand, "trial trial", noCommand)
}

// 22.3: hexadecimal digits: an even number of small ones, in a literal.
func TestHexadecimalDigits(t *testing.T) {
	nothing, network, both := desks(t)
	n, p := encodedExample(t)
	net, prop := hexOf(n), hexOf(p)
	for _, x := range []*Desk{nothing, network, both} {
		before := state(x)
		for _, s := range []string{"4", "4a4", "414d424", net[1:], prop[1:], "4A", "4G", "4g", "AMBN", strings.ToUpper(net), strings.ToUpper(prop), " " + net, net + " ", "4a 4b", "0x", "0x4a", "x4a0", "４ａ", "é", `\n`, `\n\n`, `\"`, `\\\\`, "-1", "+1", "4a:4b", "4a#", "ff.0"} {
			allAnswer(t, x, noCommand, `netof "`+s+`"`, `propof "`+s+`"`, `check "`+s+`"`)
		}
		for _, s := range []string{net, prop, "4a", "00", ""} {
			allAnswer(t, x, noCommand, "netof "+s, "propof "+s, "check "+s)
		}
		if got := state(x); got != before {
			t.Errorf("%s, not %s", got, before)
		}
	}
	// Every byte is read as it is.
	for c := range 256 {
		want := "error 81 4"
		if c == 1 {
			want = "error 10 5"
		}
		two := hexOf([]byte{byte(c)})
		does(t, network, `netof "414d424e`+two+`"`, want, `propof "414d4250`+two+`"`, want)
	}
	does(t, nothing, `netof ""`, "error 80 0", `propof ""`, "error 221", `check ""`, "error 221", `netof "`+net+`"`, "ok", `propof ""`, "error 80 0", `check ""`, "error 221", `propof "`+prop+`"`, "ok", `check ""`, "error 80")
}

// 22.3: a line that is no UTF-8, wherever that is.
func TestLinesThatAreNoText(t *testing.T) {
	nothing, network, both := desks(t)
	for _, x := range []*Desk{nothing, network, both} {
		before := state(x)
		for _, s := range []string{"\x80", "\xbf", "\xff", "\xfe", "\xc0\x80", "\xc1\xbf", "\xc3", "\xe2\x82", "\xf0\x9d\x84", "\xe0\x80\x80", "\xed\xa0\x80", "\xed\xbf\xbf", "\xf4\x90\x80\x80", "\xf8\x88\x80\x80\x80", "\xe9", "\xc3\xa9\xa9"} {
			allAnswer(t, x, noCommand, s, " "+s, "#"+s, "# a remark "+s, "forget #"+s, "forget "+s, s+"forget", "shape 1"+s, "shape 1 # "+s, `net "`+s+`"`, `net "net 1 1 1\nend`+s+`"`, `net "net 1 1 1\nend" #`+s, strings.Replace(netLine, "end", "end #"+s, 1), goodLine+" #"+s, `netof "`+s+`"`, "walk 1 2"+s, "walk 1 2 #"+s)
		}
		if got := state(x); got != before {
			t.Errorf("%s, not %s", got, before)
		}
	}
}

// 22.4: a line of MaxScript bytes is one, a longer one is not, whatever stands in it.
func TestLongLines(t *testing.T) {
	nothing, network, both := desks(t)
	const most = 65536
	for _, x := range []*Desk{nothing, network, both} {
		before := state(x)
		for _, fill := range []string{" ", "\t", "#", "a", "\x80", "1", "\n", `"`} {
			allAnswer(t, x, tooLong, strings.Repeat(fill, most+1), strings.Repeat(fill, 2*most), "forget"+strings.Repeat(fill, most-5), "forget #"+strings.Repeat(fill, most-7))
		}
		allAnswer(t, x, "", strings.Repeat(" ", most), "#"+strings.Repeat("x", most-1), strings.Repeat(" ", most-1)+"#", "#"+strings.Repeat("é", most/2-1)+"x")
		allAnswer(t, x, noCommand, strings.Repeat("x", most), strings.Repeat("\x80", most), strings.Repeat("1 ", most/2), "#"+strings.Repeat("x", most-2)+"\xff")
		// Bytes are counted, not characters.
		allAnswer(t, x, tooLong, "#"+strings.Repeat("é", most/2), "#"+strings.Repeat("𝄞", most/4))
		if got := state(x); got != before {
			t.Errorf("%s, not %s", got, before)
		}
	}
	for _, spare := range []int{most, most + 1} {
		want := map[int]string{most: "ok", most + 1: tooLong}[spare]
		x := New()
		does(t, x, netLine+strings.Repeat(" ", spare-len(netLine)), want)
		does(t, x, netLine[:len(netLine)-1]+strings.Repeat(" ", spare-len(netLine))+`"`, want)
		does(t, x, netLine+" #"+strings.Repeat("x", spare-len(netLine)-2), want)
		does(t, x, "forget"+strings.Repeat("\t", spare-6), want)
		does(t, x, `netof "`+strings.Repeat("4", spare-8)+`"`, map[int]string{most: "error 80 0", most + 1: tooLong}[spare])
	}
}

// 22.3: all numbers of a long line are read.
func TestManyWords(t *testing.T) {
	_, x, both := desks(t)
	does(t, x, "walk"+strings.Repeat(" 1", 32766), "error 63", "exact"+strings.Repeat(" 1", 32765), "error 63", "walk"+strings.Repeat(" 1", 32765)+" x", noCommand)
	does(t, both, "trial"+strings.Repeat(" 0", 32765), "ok none", "trial"+strings.Repeat(" 0", 32763)+" 1.5", noCommand)
	n := netOf(256)
	net, _ := linesFor(t, n, api.Prop{})
	var in, want []string
	for i := range 256 {
		in, want = append(in, strconv.Itoa(i-99)), append(want, nums(float64(i-99), float64(i-99)))
	}
	does(t, x, net, "ok", "walk "+strings.Join(in, " "), "ok "+strings.Join(want, " "), "exact "+strings.Join(in, "\t"), "ok "+strings.Join(want, " "))
}
