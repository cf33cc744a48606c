package verify

import (
	"math/big"
	"slices"
	"testing"

	"ambit/api"
	"ambit/cases"
	"ambit/flow"
	"ambit/margin"
	"ambit/oracle"
	"ambit/samples"
	"ambit/split"
)

// A seenRegion is a region that was looked at by the words of 19.1.
type seenRegion struct {
	region  api.Region
	settled bool
	refuted bool
	margin  float64 // or gap
	claim   int
	e       []*big.Rat // where it is refuted
	symbol  int        // which Choose names
	bad     int
}

// wantSeen looks at a region, one thing behind the other.
func wantSeen(n api.Net, p api.Prop, r api.Region) seenRegion {
	_, out := samples.Widths(n)
	claims, _ := margin.Claims(p, out)
	trace, _ := flow.Push(n, p, r, 1)
	z := trace.Z[len(trace.Z)-1]
	at, low, told := margin.Worst(z, claims)
	if !z.Bad && told && low > 0 {
		return seenRegion{region: r, settled: true, margin: low}
	}
	a := claims[0]
	if told {
		a = claims[at]
	}
	signs := margin.Signs(z, a, len(p.G))
	claim, gap, is := margin.Trial(n, p, r, signs)
	if !is {
		signs = make([]int, len(p.G))
		claim, gap, is = margin.Trial(n, p, r, signs)
	}
	if !is {
		return seenRegion{region: r, symbol: split.Choose(z, a, p, r), bad: trace.Bad}
	}
	var e []*big.Rat
	m, h := samples.Middles(r)
	for s, sign := range signs {
		e = append(e, new(big.Rat).Add(m[s], new(big.Rat).Mul(big.NewRat(int64(sign), 1), h[s])))
	}
	return seenRegion{region: r, refuted: true, margin: gap, claim: claim, e: e}
}

// inParts are reals in parts of 2 to the depth.
func inParts(e []*big.Rat, depth int) []int {
	var l []int
	for _, v := range e {
		l = append(l, int(new(big.Rat).Mul(v, oracle.Power(depth)).Num().Int64()))
	}
	return l
}

// wantVerdict is the verdict by the words of 19.2 and 19.3.
func wantVerdict(n api.Net, p api.Prop) api.Verdict {
	var settled, open []seenRegion
	looked := 0
	for wave := []api.Region{samples.Cube(len(p.G))}; len(wave) > 0; {
		var rest []seenRegion
		var first *seenRegion
		for _, r := range wave {
			looked++
			switch s := wantSeen(n, p, r); {
			case s.settled:
				settled = append(settled, s)
			case s.refuted && first == nil:
				first = &s
			case !s.refuted:
				rest = append(rest, s)
			}
		}
		if first != nil {
			return falsifiedAt(first.claim, first.margin, looked, inParts(first.e, p.Depth)...)
		}
		wave = nil
		halved := 0
		for _, s := range rest {
			way := 0
			for _, level := range s.region.Level {
				way += level
			}
			if way < p.Depth && s.symbol != -1 && looked+2*halved+2 <= p.Looks {
				halved++
				lower, upper := samples.Halves(s.region, s.symbol)
				wave = append(wave, lower, upper)
			} else {
				open = append(open, s)
			}
		}
	}
	if len(open) > 0 {
		return unknown(len(open), open[0].bad, looked)
	}
	worst := slices.MinFunc(settled, func(a, b seenRegion) int { return oracle.Exact(a.margin).Cmp(oracle.Exact(b.margin)) })
	return robust(worst.margin, looked)
}

// noteVerdict notes what a verdict is among what came up.
func noteVerdict(seen oracle.Tally, p api.Prop, v api.Verdict) {
	seen.Note("robust at once", v.Kind == api.Robust && v.Looked == 1)
	seen.Note("robust by halves", v.Kind == api.Robust && v.Looked > 1)
	seen.Note("robust by many", v.Kind == api.Robust && v.Looked > 8)
	seen.Note("falsified at once", v.Kind == api.Falsified && v.Looked == 1)
	seen.Note("falsified in a half", v.Kind == api.Falsified && v.Looked > 1)
	seen.Note("falsified by a later claim", v.Kind == api.Falsified && v.Claim > 0)
	seen.Note("several open", v.Kind == api.Unknown && v.Open > 1)
	seen.Note("the looks are spent", v.Kind == api.Unknown && v.Looked > 1 && v.Looked+2 > p.Looks)
	seen.Note("bad", v.Kind == api.Unknown && v.Bad >= 0)
}

// 19.1 to 19.4: Judge and Verify tell what the chapter's words do, of all kinds of layers.
func TestVerdictsByTheWords(t *testing.T) {
	t.Parallel()
	var m oracle.Mixer
	seen := oracle.Tally{}
	for i := range 1000 {
		n, p := cases.Mixed(&m)
		want := wantVerdict(n, p)
		expectJudge(t, n, p, 1+m.Below(16), want)
		if i%10 == 0 {
			net, prop := encoded(t, n, p)
			expectBytes(t, net, prop, want)
		}
		if t.Failed() {
			return
		}
		noteVerdict(seen, p, want)
	}
	seen.Expect(t, 20, "robust at once", "robust by halves", "falsified at once", "falsified in a half", "falsified by a later claim", "several open", "the looks are spent", "bad", "robust by many")
}

// 19.6: Radius tells what the chapter's words do.
func TestRadiiByTheWords(t *testing.T) {
	t.Parallel()
	var m oracle.Mixer
	seen := oracle.Tally{}
	for range 150 {
		n, p := cases.Undecided(&m, samples.EveryKind(), 3)
		p.Depth, p.Looks = m.Below(3), 1+m.Below(8)
		bits := m.Below(5)
		at := func(i int) api.Verdict { return wantVerdict(n, shrunk(p, float64(i)/float64(int(1)<<bits))) }
		want, _ := wantRadius(1<<bits, func(i int) bool { return at(i).Kind == api.Robust })
		expectRadius(t, n, p, bits, want, at(max(want, 0)))
		if t.Failed() {
			return
		}
		seen.Note("all", want == 1<<bits)
		seen.Note("none", want == -1)
		seen.Note("0 alone", want == 0)
		seen.Note("between", want > 0 && want < 1<<bits)
	}
	seen.Expect(t, 5, "all", "none", "0 alone", "between")
}
