package verify

import (
	"math"
	"slices"

	"ambit/api"
	"ambit/margin"
	"ambit/split"
)

// A search is the way to a verdict, as far as it went.
type search struct {
	cause
	workers int
	looked  int
	least   float64 // of the margins of all settled regions
	open    int
	bad     int // of the region that stayed open first
}

// newSearch is one that begins; the network, the question and the workers may be.
func newSearch(n api.Net, p api.Prop, workers int, done <-chan struct{}) *search {
	_, out, _ := widths(n)
	claims, _ := margin.Claims(p, out)
	return &search{cause: cause{n, p, claims, done}, workers: workers, least: math.MaxFloat64}
}

// run goes from wave to wave, and tells the verdict; ErrStopped, if it was stopped ahead of it.
func (s *search) run() (api.Verdict, api.Errno) {
	whole, _ := split.Whole(len(s.prop.G))
	for wave := []api.Region{whole}; len(wave) > 0; {
		found := lookAtAll(wave, s.workers, s.look)
		s.looked += len(wave)
		if slices.ContainsFunc(found, finding.isStopped) {
			return api.Verdict{}, api.ErrStopped
		}
		if at := slices.IndexFunc(found, finding.isRefuted); at >= 0 {
			return s.falsified(found[at]), api.OK
		}
		wave = s.next(wave, found)
	}
	return s.verdict(), api.OK
}

func (f finding) isStopped() bool { return f.outcome == stopped }

func (f finding) isRefuted() bool { return f.outcome == refuted }

// next is the wave behind one that nothing refuted: the halves of what may be halved.
func (s *search) next(wave []api.Region, found []finding) []api.Region {
	var next []api.Region
	for i, f := range found {
		switch {
		case f.outcome == settled:
			s.least = min(s.least, f.margin)
		case f.symbol >= 0 && s.looked+len(next)+2 <= s.prop.Looks:
			lower, upper, _ := split.Halve(wave[i], f.symbol)
			next = append(next, lower, upper)
		default:
			s.leaveOpen(f)
		}
	}
	return next
}

// leaveOpen counts a region that stays open.
func (s *search) leaveOpen(f finding) {
	if s.open == 0 {
		s.bad = f.bad
	}
	s.open++
}

func (s *search) falsified(f finding) api.Verdict {
	return api.Verdict{Kind: api.Falsified, Margin: f.margin, Claim: f.claim, E: f.ends, Looked: s.looked}
}

// verdict is what is to be told when there is no further wave, and nothing was refuted.
func (s *search) verdict() api.Verdict {
	if s.open > 0 {
		return api.Verdict{Kind: api.Unknown, Looked: s.looked, Open: s.open, Bad: s.bad}
	}
	return api.Verdict{Kind: api.Robust, Margin: s.least, Looked: s.looked}
}
