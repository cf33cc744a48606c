package verify

import (
	"fmt"
	"slices"
	"testing"

	"ambit/api"
	"ambit/cases"
	"ambit/code"
	"ambit/model"
	"ambit/oracle"
	"ambit/samples"
)

// anyCase is a network and a question with anything in them, though they often may be.
func anyCase(m *oracle.Mixer) (api.Net, api.Prop) {
	n, p := cases.Mixed(m)
	switch m.Below(5) {
	case 0:
		n = samples.AnyNet(m)
		if e, _ := model.Check(n); e == api.OK {
			p = cases.Within(samples.MixedPropTo(m, n), 2, 9)
		}
	case 1:
		p = samples.AnyProp(m)
	case 2:
		*[]*int{&p.Target, &p.K, &p.Depth, &p.Looks}[m.Below(4)] = samples.AnyWhole(m)
	}
	return n, p
}

// wantError is the first thing by which Judge answers nothing.
func wantError(n api.Net, p api.Prop, workers int) api.Errno {
	if e, _ := model.Check(n); e != api.OK {
		return e
	}
	in, out := samples.Widths(n)
	if e, _ := model.CheckProp(p, in, out); e != api.OK {
		return e
	}
	if workers < 1 || workers > 16 {
		return api.ErrArg
	}
	return api.OK
}

// 19.3, 19.6, 19.8: whatever is handed in, a call ends, and answers what may be answered, twice the same.
func TestAnythingEnds(t *testing.T) {
	t.Parallel()
	var m oracle.Mixer
	seen := oracle.Tally{}
	for range 1200 {
		n, p := anyCase(&m)
		workers, bits := samples.AnyWhole(&m), samples.AnyWhole(&m)
		want := wantError(n, p, workers)
		seen.Note(fmt.Sprint(want), true)
		if want != api.OK {
			expectRefused(t, n, p, bits, workers, want)
			continue
		}
		v, e := Judge(n, p, workers)
		if e != api.OK || v.Kind < api.Robust || v.Kind > api.Unknown || v.Looked < 1 || v.Looked > p.Looks {
			t.Fatalf("%s, %s: %+v %v", text(n), text(p), v, e)
		}
		expectJudge(t, n, p, 1, v)
		if bits < 0 || bits > 20 {
			expectNoRadius(t, n, p, bits, workers, api.ErrArg)
		} else if i, w, e := Radius(n, cases.Within(p, min(p.Depth, 1), min(p.Looks, 3)), bits, workers); e != api.OK || i < -1 || i > 1<<bits || (w.Kind == api.Robust) != (i >= 0) {
			t.Fatalf("%s, %s: %d %+v %v", text(n), text(p), i, w, e)
		}
		if t.Failed() {
			return
		}
	}
	for _, e := range []api.Errno{api.OK, api.ErrArg, api.ErrCount, api.ErrNumber, api.ErrField, api.ErrShape, api.ErrTarget, api.ErrBudget} {
		seen.Expect(t, 3, fmt.Sprint(e))
	}
}

// wantMalformed is what is told of bytes that are no network, or no question to it; of others Unknown.
func wantMalformed(net, prop []byte) api.Verdict {
	n, e, place := code.DecodeNet(net)
	if e != api.OK {
		return malformedBytes(e, 1, place)
	}
	p, e, place := code.DecodeProp(prop)
	if e != api.OK {
		return malformedBytes(e, 2, place)
	}
	in, out := samples.Widths(n)
	if e, place := model.CheckProp(p, in, out); e != api.OK {
		return malformedBytes(e, 2, place)
	}
	v, _ := Judge(n, p, 1)
	return v
}

// anyBytes are some that are often spoilt.
func anyBytes(m *oracle.Mixer, b []byte) []byte {
	b = slices.Clone(b)
	switch m.Below(4) {
	case 0:
		b[m.Below(len(b))] ^= 1 << m.Below(8)
	case 1:
		if m.Below(2) == 0 {
			b = b[:m.Below(len(b))]
		}
	}
	return b
}

// 19.4, 19.5, 19.8: whatever the bytes are, the verdict is one of theirs.
func TestAnyBytesEnd(t *testing.T) {
	t.Parallel()
	var m oracle.Mixer
	seen := oracle.Tally{}
	for range 800 {
		n, p := cases.Mixed(&m)
		other, q := cases.Mixed(&m)
		p.Looks, q.Looks = 1+m.Below(3), 1+m.Below(3)
		net, prop := encoded(t, n, p)
		if m.Below(4) == 0 {
			_, prop = encoded(t, other, q)
		}
		net, prop = anyBytes(&m, net), anyBytes(&m, prop)
		want := wantMalformed(net, prop)
		expectBytes(t, net, prop, want)
		expectNoSide(t, closed(), 1+m.Below(16), net, prop, api.ErrStopped)
		if t.Failed() {
			return
		}
		seen.Note(fmt.Sprint("whose ", want.Whose), true)
		seen.Note("unlike", want.Whose == 2 && (want.Err == api.ErrCount || want.Err == api.ErrTarget))
	}
	seen.Expect(t, 50, "whose 0", "whose 1", "whose 2", "unlike")
}
