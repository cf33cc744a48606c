package desk

import (
	"math/big"
	"slices"
	"strconv"
	"strings"
	"testing"

	"ambit/api"
	"ambit/cases"
	"ambit/margin"
	"ambit/oracle"
	"ambit/point"
	"ambit/samples"
)

// fields are the words of an answer behind ok.
func fields(t *testing.T, x *Desk, line string) []string {
	t.Helper()
	words := strings.Fields(x.Do(line))
	if len(words) == 0 || words[0] != "ok" {
		t.Fatalf("%s: %v", line, words)
	}
	return words[1:]
}

func wholeIn(t *testing.T, word string) int {
	t.Helper()
	n, err := strconv.Atoi(word)
	if err != nil || strconv.Itoa(n) != word {
		t.Fatalf("%q is no whole number of an answer", word)
	}
	return n
}

// corners are all choices of an end for each symbol, as lines of trial and as points of the cube.
func corners(k int) (lines []string, points [][]*big.Rat) {
	for c := range 1 << k {
		line, e := "trial", []*big.Rat(nil)
		for s := range k {
			sign := 2*(c>>s&1) - 1
			line += " " + strconv.Itoa(sign)
			e = append(e, big.NewRat(int64(sign), 1))
		}
		lines, points = append(lines, line), append(points, e)
	}
	return lines, points
}

// 22.6, W1, W3: what a script tells of a verdict is so at exact points of the cube.
func TestVerdictsOfScriptsAreSo(t *testing.T) {
	t.Parallel()
	var m oracle.Mixer
	seen := oracle.Tally{}
	for range 500 {
		n, p := cases.Mixed(&m)
		p.Looks = min(p.Looks, 40)
		x := laid(t, n, p)
		told := fields(t, x, "verify 4")
		seen.Note(told[0], true)
		switch told[0] {
		case "robust":
			low := numberIn(t, told[1])
			lines, points := corners(len(p.G))
			points = append(points, cases.Shares(&m, len(p.G)), cases.Shares(&m, len(p.G)))
			for _, e := range points {
				for _, sum := range cases.SumsAt(n, p, e) {
					if low <= 0 || sum.Cmp(oracle.Exact(low)) < 0 {
						t.Fatalf("%+v, %+v: %v, but a sum is %v", n, p, told, sum)
					}
				}
			}
			allAnswer(t, x, "ok none", lines...)
		case "falsified":
			claim, gap := wholeIn(t, told[1]), numberIn(t, told[2])
			var e []*big.Rat
			for _, w := range told[4:] {
				e = append(e, big.NewRat(int64(wholeIn(t, w)), 1<<p.Depth))
			}
			if sum := cases.SumsAt(n, p, e)[claim]; gap <= 0 || sum.Cmp(oracle.Exact(-gap)) > 0 {
				t.Fatalf("%+v, %+v: %v, but the sum is %v", n, p, told, sum)
			}
		}
		if t.Failed() {
			return
		}
	}
	seen.Expect(t, 20, "robust", "falsified", "unknown")
}

// 22.6, W2: what bounds tells of every output holds its exact coordinates, and a trial that tells is so.
func TestBoundsOfScriptsHold(t *testing.T) {
	t.Parallel()
	var m oracle.Mixer
	seen := oracle.Tally{}
	for range 200 {
		n, p := cases.Mixed(&m)
		x := laid(t, n, p)
		lines, points := corners(len(p.G))
		at := m.Below(len(points))
		outputs := samples.OutputsAt(n, samples.PointAt(p, samples.Cube(len(p.G)), points[at]))
		for k, y := range outputs {
			told := fields(t, x, "bounds "+strconv.Itoa(k))
			seen.Note("bad", told[0] == "bad")
			if told[0] == "bad" {
				continue
			}
			for i, v := range y {
				if v.Cmp(oracle.Exact(numberIn(t, told[2*i]))) < 0 || v.Cmp(oracle.Exact(numberIn(t, told[2*i+1]))) > 0 {
					t.Fatalf("%+v, %+v: output %d is %v at %d, not within %v", n, p, k, v, i, told)
				}
				seen.Note("held", true)
			}
		}
		if told := fields(t, x, lines[at]); told[0] != "none" {
			sum := cases.SumsAt(n, p, points[at])[wholeIn(t, told[0])]
			if gap := numberIn(t, told[1]); gap <= 0 || sum.Cmp(oracle.Exact(-gap)) > 0 {
				t.Fatalf("%+v, %+v: %v, but the sum is %v", n, p, told, sum)
			}
			seen.Note("refuted", true)
		}
	}
	seen.Expect(t, 10, "bad", "held", "refuted")
}

// 22.6, W4, W6: budgets turn no robust verdict into a falsified one, and greater ones leave what was found.
func TestBudgetsOfScripts(t *testing.T) {
	t.Parallel()
	var m oracle.Mixer
	seen := oracle.Tally{}
	for range 150 {
		n, p := cases.Mixed(&m)
		p.Depth, p.Looks = m.Below(3), 1+m.Below(8)
		x := laid(t, n, p)
		first := fields(t, x, "verify 2")
		p.Depth, p.Looks = p.Depth+2, p.Looks+m.Below(10)
		_, prop := linesFor(t, n, p)
		does(t, x, prop, "ok")
		more := fields(t, x, "verify 2")
		switch first[0] {
		case "robust":
			if !slices.Equal(more, first) {
				t.Fatalf("%v, then %v", first, more)
			}
		case "falsified":
			for i, w := range first[4:] {
				first[4+i] = strconv.Itoa(4 * wholeIn(t, w))
			}
			if wholeIn(t, more[3]) < wholeIn(t, first[3]) || !slices.Equal(slices.Delete(slices.Clone(more), 3, 4), slices.Delete(slices.Clone(first), 3, 4)) {
				t.Fatalf("%v, then %v", first, more)
			}
		}
		seen.Note(first[0]+" "+more[0], true)
		p.K = 1 + m.Below(8)
		_, prop = linesFor(t, n, p)
		does(t, x, prop, "ok")
		if other := fields(t, x, "verify 2"); slices.Contains([]string{"robust falsified", "falsified robust"}, more[0]+" "+other[0]) {
			t.Fatalf("%v, and %v", more, other)
		}
	}
	seen.Expect(t, 10, "robust robust", "falsified falsified", "unknown unknown")
	seen.Expect(t, 3, "unknown robust")
}

// 22.6, W5: what a linear network's least sums are above what Idle tells is robust at once.
func TestScriptsAreNotIdle(t *testing.T) {
	t.Parallel()
	var m oracle.Mixer
	bound, _ := point.Of(0x1p-30)
	asked := 0
	for range 200 {
		whole := func() float64 { return float64(m.Below(9) - 4) }
		few := func(n int) (l []float64) {
			for range n {
				l = append(l, whole())
			}
			return l
		}
		n := netOf(2, dense(few(6), few(3)), dense(few(6), few(2)))
		p := api.Prop{C: few(2), G: lists(few(2), few(2)), Target: -1, Claims: lists(append(few(2), 0)), K: 8, Looks: 1}
		var low *big.Rat
		_, points := corners(2)
		for _, e := range points {
			if sum := cases.SumsAt(n, p, e)[0]; low == nil || sum.Cmp(low) < 0 {
				low = sum
			}
		}
		least, _ := low.Float64()
		p.Claims[0][2] = 0x1p-30 - least
		idle, ok := margin.Idle(n, p)
		if c, is := point.Cmp(idle, bound); !ok || !is || c >= 0 {
			continue
		}
		asked++
		does(t, laid(t, n, p), "verify 1", "ok robust 0x1p-30 1")
	}
	if asked < 100 {
		t.Errorf("%d only", asked)
	}
}

// 22.6, W7: every number of workers tells the same.
func TestWorkersOfScripts(t *testing.T) {
	t.Parallel()
	var m oracle.Mixer
	for range 25 {
		n, p := cases.Mixed(&m)
		p.Looks = min(p.Looks, 25)
		x := laid(t, n, p)
		want := x.Do("verify 1")
		for workers := 2; workers <= 16; workers++ {
			does(t, x, "verify "+strconv.Itoa(workers), want)
		}
	}
}

// 22.6, W8: what account gives, check takes, and tells the verdict's margin; also on another desk with the same two.
func TestAccountsOfScripts(t *testing.T) {
	t.Parallel()
	var m oracle.Mixer
	seen := oracle.Tally{}
	for range 150 {
		n, p := cases.Mixed(&m)
		p.Looks = min(p.Looks, 40)
		x := laid(t, n, p)
		told := fields(t, x, "verify 4")
		seen.Note(told[0], true)
		if told[0] != "robust" {
			does(t, x, "account", "error 202")
			continue
		}
		given := fields(t, x, "account")[0]
		net, prop := encoded(t, n, p)
		y := New()
		does(t, y, of("netof", net), "ok", of("propof", prop), "ok", `check "`+given+`"`, "ok "+told[1])
		does(t, x, `check "`+given+`"`, "ok "+told[1], `check "`+given[2:]+`"`, "error 80")
		seen.Note("several parts", told[2] != "1")
		if t.Failed() {
			return
		}
	}
	seen.Expect(t, 10, "robust", "falsified", "unknown", "several parts")
}

// 22.6, W9: a network and a question that are handed on by their bytes, or by their texts, are the same: every answer is.
func TestHandedOnBytes(t *testing.T) {
	t.Parallel()
	var m oracle.Mixer
	for range 150 {
		n, p := cases.Mixed(&m)
		p.Looks = 1 + m.Below(4)
		k := knownOf(t, n, p)
		x := New()
		does(t, x, k.laying[0], "ok", k.laying[1], "ok")
		y := New()
		does(t, y, `netof "`+fields(t, x, "netbytes")[0]+`"`, "ok", `propof "`+fields(t, x, "propbytes")[0]+`"`, "ok")
		for range 15 {
			line := asking(&m, k)
			does(t, y, line, x.Do(line))
			if x.Do("propbytes") == nothing {
				does(t, x, k.laying[2], "ok", k.laying[3], "ok")
				does(t, y, k.laying[0], "ok", k.laying[1], "ok")
			}
		}
		does(t, y, "netbytes", x.Do("netbytes"), "propbytes", x.Do("propbytes"))
		if t.Failed() {
			return
		}
	}
}

// 22.6, W9: behind each layer of width n there are at most K n columns.
func TestColumnsOfScripts(t *testing.T) {
	t.Parallel()
	var m oracle.Mixer
	full := 0
	for range 200 {
		n, p := cases.Mixed(&m)
		p.K = 1 + m.Below(3)
		x := laid(t, n, p)
		for k := 1; k <= len(n.Layers); k++ {
			at := strconv.Itoa(k)
			shape, ids := fields(t, x, "shape "+at), fields(t, x, "columns "+at)
			width := wholeIn(t, shape[0]) * wholeIn(t, shape[1]) * wholeIn(t, shape[2])
			if len(ids) > p.K*width {
				t.Fatalf("%+v, %+v: %d columns behind layer %d", n, p, len(ids), k)
			}
			if len(ids) == p.K*width {
				full++
			}
		}
	}
	if full < 10 {
		t.Errorf("%d only", full)
	}
}
