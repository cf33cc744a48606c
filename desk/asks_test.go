package desk

import (
	"strconv"
	"strings"
	"testing"

	"ambit/api"
	"ambit/audit"
	"ambit/cases"
	"ambit/oracle"
	"ambit/samples"
	"ambit/verify"
)

// overflowing is a desk whose trace is bad from layer 2 on: what is squared twice is no number any more.
func overflowing(t *testing.T) *Desk {
	t.Helper()
	return laid(t, netOf(1, kind(api.KSquare), kind(api.KSquare), kind(api.KRelu)), cases.Within(cases.Asked(lists(numbers(1, 1)), numbers(0x1p300), numbers(1)), 1, 3))
}

// wide is a desk with a zonotope that is not bad, though one of its spans is.
func wide(t *testing.T) *Desk {
	t.Helper()
	return laid(t, netOf(2), cases.Within(cases.Asked(lists(numbers(0, 1, 0)), numbers(most, 3), numbers(most, 1), numbers(0, 0)), 0, 1))
}

// 22.4: verify tells each kind of verdict.
func TestVerify(t *testing.T) {
	x := example(t, false)
	does(t, x, furtherLine, "ok")
	for workers := range 16 {
		does(t, x, "verify "+strconv.Itoa(workers+1), "ok falsified 1 0x1p-2 1 -1")
	}
	allAnswer(t, x, "error 1", "verify 0", "verify 17", "verify -1", "verify 9223372036854775807", "verify -9223372036854775808")
	// Several symbols, in parts of 2 to the Depth; and no symbol.
	n, p := netOf(2), cases.Within(cases.Asked(lists(numbers(1, 1, 1)), numbers(0, 0), numbers(1, 0), numbers(0, -1), numbers(0, 0)), 3, 1)
	does(t, laid(t, n, p), "verify 2", "ok falsified 0 0x1p+0 1 -8 8 0")
	p.G = nil
	does(t, laid(t, n, p), "verify 1", "ok robust 0x1p+0 1", "radius 0", "ok 1 robust 0x1p+0 1", "columns 0", "ok", "trial", "ok none", "trial 0", "ok none")
	p.C = numbers(-3, 0)
	does(t, laid(t, n, p), "verify 1", "ok falsified 0 0x1p+1 1", "radius 3", "ok -1 falsified 0 0x1p+1 1", "trial", "ok 0 0x1p+1", "trial 0", "ok none")
	// What stays open, by a budget, or because it is bad.
	kinks := laid(t, cases.Kinks(-0.5, 0.5), cases.Within(cases.Unit(numbers(1, 0.125)), 0, 1))
	does(t, kinks, "verify 4", "ok unknown 1 -1 1")
	does(t, overflowing(t), "verify 1", "ok unknown 2 2 3", "radius 0", "ok -1 unknown 1 2 1")
	split := laid(t, cases.Kinks(-0.5, 0.5), cases.Unit(numbers(1, 0.125)))
	does(t, split, "verify 1", "ok robust 0x1p-3 7", "verify 16", "ok robust 0x1p-3 7")
}

// 22.4: radius, with every count of bits.
func TestRadius(t *testing.T) {
	x := example(t, true)
	does(t, x, "radius 0", "ok 0 robust 0x1p-1 1", "radius 1", "ok 1 robust 0x1p-2 1", "radius 2", "ok 2 robust 0x1p-2 1", "radius 3", "ok 5 robust 0x1p-3 1")
	n, p := cases.Example(true)
	for bits := range 21 {
		i, v, e := verify.Radius(n, p, bits, 2)
		if e != api.OK || v.Kind != api.Robust {
			t.Fatalf("%d: %+v %v", bits, v, e)
		}
		does(t, x, "radius "+strconv.Itoa(bits), "ok "+strconv.Itoa(i)+" robust "+num(v.Margin)+" "+strconv.Itoa(v.Looked))
	}
	allAnswer(t, x, "error 1", "radius -1", "radius 21", "radius 9223372036854775807", "radius -9223372036854775808")
}

// 22.4: bounds and columns of every output, and of none.
func TestBoundsAndColumns(t *testing.T) {
	x := example(t, false)
	does(t, x, "bounds 0", "ok "+nums(-0.5, 1.5, 0.25, 0.25), "bounds 1", "ok "+nums(-0.25, 1.75, -0.75, 1.25))
	allAnswer(t, x, "error 1", "bounds -1", "bounds 2", "bounds 9223372036854775807", "columns -1", "columns 2", "columns -9223372036854775808", "shadow -1 0 0", "shadow 2 0 0")
	// Columns that came behind the question's, and a column of noughts, which goes behind a layer.
	bent := laid(t, netOf(1, kind(api.KRelu)), cases.Within(cases.Asked(lists(numbers(1, 1)), numbers(1), numbers(2), numbers(0)), 0, 1))
	does(t, bent, "columns 0", "ok 0 1", "columns 1", "ok 0 2", "bounds 1", "ok "+nums(-0.75, 3), "shadow 1 0 0", "ok "+nums(0, -0.75, -0.75, 3, 3))
	// A zonotope is told bad where it is; one that is not has Ids, also where a span of its is bad.
	does(t, overflowing(t), "bounds 0", "ok "+nums(0x1.fffffffffffffp299, 0x1.0000000000001p300), "columns 0", "ok 0", "bounds 2", "ok bad", "columns 2", "ok bad", "bounds 3", "ok bad", "columns 3", "ok bad", "bounds 4", "error 1", "shadow 2 0 0", "error 100", "shadow 3 0 7", "error 100", "margin", "ok bad")
	does(t, wide(t), "bounds 0", "ok bad", "columns 0", "ok 0 1", "margin", "ok 0x1p+1", "shadow 0 0 1", "error 64", "shadow 0 1 1", "ok "+nums(0, 2, 2, 4, 4))
	// None at all.
	none := laid(t, netOf(1), cases.Within(cases.Asked(lists(numbers(1, 0)), numbers(2)), 0, 1))
	does(t, none, "columns 0", "ok", "bounds 0", "ok "+nums(2, 2), "shadow 0 0 0", "ok "+nums(0, 2, 2))
}

// 22.4: margin tells each claim's, the target's first.
func TestMargin(t *testing.T) {
	n := netOf(3)
	p := api.Prop{C: numbers(1, 2, 4), G: lists(numbers(1, 0, 0), numbers(0, 0.5, 0)), Target: 1, Claims: lists(numbers(1, 1, 1, -7), numbers(0, 0, 1, 0)), K: 1, Looks: 1}
	x := laid(t, n, p)
	does(t, x, "margin", "ok "+nums(-0.5, -2.5, -1.5, 4), "margin 1", noCommand)
	// One claim without a margin is enough.
	p.Claims = lists(numbers(0, 0, 1, 0), numbers(-most, -most, -most, 0))
	does(t, laid(t, n, p), "margin", "ok bad")
}

// 22.4: trial at signs, and at what are none.
func TestTrial(t *testing.T) {
	n, p := netOf(2), cases.Within(cases.Asked(lists(numbers(1, 1, 1), numbers(1, 0, 0.5)), numbers(0, 0), numbers(1, 0), numbers(0, -1)), 3, 1)
	x := laid(t, n, p)
	does(t, x, "trial -1 1", "ok 0 0x1p+0", "trial -1 0", "ok 1 0x1p-1", "trial -1 -1", "ok 1 0x1p-1", "trial 0 0", "ok none", "trial 1 1", "ok none", "trial 0 1", "ok none")
	// Signs that are none, and too few or too many of them.
	allAnswer(t, x, "ok none", "trial", "trial -1", "trial -1 1 0", "trial -2 1", "trial -1 2", "trial -8 8", "trial 9223372036854775807 1", "trial -1 -9223372036854775808")
	allAnswer(t, x, noCommand, "trial -1 1.0", "trial -1.0 1", "trial -1 x", "trial -1 +1", "trial - 1", `trial "-1" 1`, "trial -1 01", "trial -0 1")
	// A trial by spans.
	bent := laid(t, netOf(1, kind(api.KTanh)), cases.Within(cases.Unit(numbers(1, 0.5)), 0, 1))
	got := bent.Do("trial -1")
	if gap := numberIn(t, strings.TrimPrefix(got, "ok 0 ")); gap < 0.26 || gap > 0.27 {
		t.Error(got)
	}
	does(t, bent, "trial 0", "ok none", "trial 1", "ok none")
}

// 22.4: walk at numbers, too few and too many of them, and what is bad.
func TestWalk(t *testing.T) {
	_, x, _ := desks(t)
	does(t, x, "walk 0.5 0.25", "ok "+nums(0.75, 0.75, 0.25, 0.25), "walk -0 -0", "ok "+nums(0, 0, 0, 0), "walk 1 0x1p-60", "ok "+nums(1, 1+0x1p-52, 1-0x1p-53, 1), "walk 0x1.fffffffffffffp1023 1e308", "ok bad", "walk 1e308 -1e308", "ok bad")
	allAnswer(t, x, "error 63", "walk", "walk 1", "walk 1 2 3", "walk 1 2 3 4", "walk 1e308")
	does(t, New(), "walk", nothing, "walk 1", nothing, "walk x", noCommand)
	// An output that is bad on the way, but leads to nothing that is told.
	skip := New()
	does(t, skip, `net "net 1 1 3\nsquare\nconv 1 1 1 1 2 0 0\nw 2\nb 0\nend"`, "ok", "walk 1 1e200 2", "ok "+nums(2, 2, 8, 8), "walk 1 2 1e200", "ok bad", "walk 1e200 2 3", "ok bad")
	does(t, skip, `net "net 1 1 1\nend"`, "ok", "walk -0", "ok "+nums(0, 0), "walk 1e308", "ok "+nums(1e308, 1e308), "walk 1e309", noCommand)
	does(t, skip, `net "net 1 1 1\ntanh\nend"`, "ok", "walk 0", "ok "+nums(0, 0), "walk 1e9", "ok "+nums(1-0x1p-53, 1), "walk -1e9", "ok "+nums(-1, -1+0x1p-53))
}

// 22.4: exact at numbers: down and up of each output, where there are such numbers.
func TestExact(t *testing.T) {
	_, x, _ := desks(t)
	does(t, x, "exact 1e-1 0", "ok "+nums(0.1, 0.1, 0.1, 0.1), "exact 1 0x1p-60", "ok "+nums(1, 1+0x1p-52, 1-0x1p-53, 1), "exact -0 -0", "ok "+nums(0, 0, 0, 0), "exact 0x1p-1074 0x1p-1074", "ok "+nums(2*least, 2*least, 0, 0))
	// Beyond the numbers there is one on one side alone.
	does(t, x, "exact 1e308 1e308", "ok "+nums(most)+" bad "+nums(0, 0), "exact -1e308 -1e308", "ok bad "+nums(-most, 0, 0), "exact -1e308 1e308", "ok "+nums(0, 0)+" bad "+nums(-most))
	allAnswer(t, x, "error 63", "exact", "exact 1", "exact 1 2 3")
	y := New()
	does(t, y, `net "net 1 1 1\ntanh\nend"`, "ok", "exact", "error 63", "exact 0", "error 61", "exact 1 2", "error 63", `net "net 1 1 1\nrelu\nsigmoid\nend"`, "ok", "exact 1", "error 61")
	// Squared again and again: small, great, and too long.
	squares := func(n int) string { return `net "net 1 1 1` + strings.Repeat(`\nsquare`, n) + `\nend"` }
	does(t, y, squares(11), "ok", "exact 1.5", "ok "+num(most)+" bad", "exact 0.5", "ok "+nums(0, least), "exact -1", "ok "+nums(1, 1))
	does(t, y, squares(20), "ok", "exact 1.5", "error 140", "exact 2", "error 140", "exact 1", "ok "+nums(1, 1), "exact 0", "ok "+nums(0, 0))
	does(t, y, squares(16), "ok", "exact 2", "ok "+num(most)+" bad", "exact 0.5", "ok "+nums(0, least), squares(17), "ok", "exact 2", "error 140", "exact -0.5", "error 140")
	does(t, y, `net "net 1 1 2\nend"`, "ok", "exact 3 -0x1.8p-3", "ok "+nums(3, 3, -0.1875, -0.1875))
}

// 22.4: shadow on every pair of coordinates, and where there is none.
func TestShadow(t *testing.T) {
	x := laid(t, netOf(3), cases.Within(cases.Asked(lists(numbers(1, 1, 1, 1)), numbers(0, 0, 5), numbers(1, 0, 0), numbers(0, 1, 0), numbers(-2, -2, 0)), 0, 1))
	does(t, x, "shadow 0 0 1", "ok "+nums(0, -3, -3, -1, -3, 3, 1, 3, 3, 1, 3, -3, -1), "shadow 0 2 2", "ok "+nums(0, 5, 5), "shadow 0 0 2", "ok "+nums(0, -3, 5, 3, 5), "shadow 0 2 0", "ok "+nums(0, 5, -3, 5, 3))
	allAnswer(t, x, "error 1", "shadow 0 0 3", "shadow 0 3 0", "shadow 0 -1 0", "shadow 0 0 -1", "shadow 1 0 0", "shadow -1 0 0", "shadow 1 9 9")
	// What is told is off.
	off := laid(t, netOf(2), cases.Within(cases.Asked(lists(numbers(1, 1, 1)), numbers(1, 0), numbers(0x1p-60, 0)), 0, 1))
	does(t, off, "shadow 0 0 1", "ok "+nums(0x1p-60, 1, 0, 1, 0))
}

// 22.4: account, and check of it by whoever has both.
func TestAccountAndCheck(t *testing.T) {
	n, p := cases.Kinks(-0.5, 0.5), cases.Unit(numbers(1, 0.125))
	net, prop := encoded(t, n, p)
	want, e := audit.Account(net, prop)
	if e != api.OK || len(want) != 32 {
		t.Fatalf("%x %v", want, e)
	}
	x := laid(t, n, p)
	does(t, x, "account", "ok "+hexOf(want), of("check", want), "ok 0x1p-3", of("check", nil), "error 80", of("check", net), "error 80", of("check", want[:4]), "error 81", of("check", want[:30]), "error 10", of("check", append(want[:32:32], 0)), "error 82")
	for at := range want {
		b := append([]byte{}, want...)
		b[at] ^= 0x10
		if got := x.Do(of("check", b)); !strings.HasPrefix(got, "error ") {
			t.Errorf("%x: %s", b, got)
		}
	}
	// What is proven is told by the parts alone; a margin that is not the parts' own is none.
	does(t, x, of("check", sealed(string(want[:13])+"\x00\x00\x00\x00\x00\x00\xd0\x3f"+string(want[21:28]))), "error 200", of("check", sealed(string(want[:21])+"\x00")), "error 201")
	// An account of another question, and of another network.
	q := p
	q.K = 7
	does(t, laid(t, n, q), of("check", want), "error 200")
	does(t, laid(t, cases.Kinks(-0.5, 0.25), p), of("check", want), "error 200")
	does(t, example(t, false), of("check", want), "error 200")
	// Nothing to give an account of.
	does(t, example(t, true), "account", "error 202", of("check", want), "error 200")
	does(t, overflowing(t), "account", "error 202")
	does(t, laid(t, n, cases.Within(p, 0, 1)), "account", "error 202")
}

// 22.4: Looks and Depth of the question are those of the verdict.
func TestVerdictsOfLargerNetworks(t *testing.T) {
	t.Parallel()
	var m oracle.Mixer
	seen := oracle.Tally{}
	for range 150 {
		n, p := cases.Mixed(&m)
		p.Looks = min(p.Looks, 30)
		v, e := verify.Judge(n, p, 8)
		if e != api.OK {
			t.Fatal(e)
		}
		does(t, laid(t, n, p), "verify 2", "ok "+wantVerdict(v))
		if t.Failed() {
			return
		}
		seen.Note(strconv.Itoa(v.Kind), true)
		seen.Note("looked further", v.Looked > 1)
	}
	seen.Expect(t, 5, "1", "2", "3", "looked further")
}

// 22.4: all outputs of a network with a layer of each kind.
func TestAllOutputsAreTold(t *testing.T) {
	n := samples.Chain()
	x := laid(t, n, cases.Within(samples.QuestionTo(n, 2), 0, 1))
	for m := range 13 {
		for _, c := range []string{"shape ", "bounds ", "columns "} {
			if got := x.Do(c + strconv.Itoa(m)); !strings.HasPrefix(got, "ok ") {
				t.Errorf("%s%d: %s", c, m, got)
			}
		}
	}
}
