package verify

import (
	"slices"
	"testing"
	"time"

	"ambit/api"
	"ambit/cases"
	"ambit/code"
	"ambit/model"
	"ambit/samples"
)

func malformedBytes(e api.Errno, whose, place int) api.Verdict {
	return api.Verdict{Kind: api.Malformed, Err: e, Whose: whose, Place: place}
}

// spoilt are bytes that are none any more.
func spoilt(b []byte) [][]byte {
	all := [][]byte{nil, {}, []byte("AMB"), b[:4], b[:len(b)-1], append(slices.Clone(b), 0), make([]byte, api.MaxFile+1)}
	for i := range b {
		other := slices.Clone(b)
		other[i] ^= 1 << (i % 8)
		all = append(all, other)
	}
	return all
}

// 19.4: bytes that are no network: the error and the place of DecodeNet, whatever the question is.
func TestBytesThatAreNoNetwork(t *testing.T) {
	for _, ordinary := range []api.Net{wide(), netOf(2), samples.Chain()} {
		net, prop := encoded(t, ordinary, samples.Question())
		for _, b := range spoilt(net) {
			_, e, place := code.DecodeNet(b)
			if e == api.OK {
				t.Fatalf("%x is a network", b)
			}
			expectBytes(t, b, prop, malformedBytes(e, 1, place))
			expectBytes(t, b, nil, malformedBytes(e, 1, place))
		}
	}
	// By hand: no first bytes; another version; a shape that may not be; a byte too many.
	_, prop := encoded(t, netOf(2), samples.Question())
	expectBytes(t, []byte("AMBP\x01"), prop, malformedBytes(api.ErrMagic, 1, 0))
	expectBytes(t, []byte("AMBN\x02"), prop, malformedBytes(api.ErrVersion, 1, 4))
	expectBytes(t, []byte("AMBN\x01\x00\x01\x01"), prop, malformedBytes(api.ErrShape, 1, 5))
	net, _ := encoded(t, netOf(2), samples.Question())
	expectBytes(t, append(net, 0), prop, malformedBytes(api.ErrRest, 1, 14))
	expectBytes(t, make([]byte, api.MaxFile+1), prop, malformedBytes(api.ErrLong, 1, api.MaxFile))
}

// 19.4: bytes that are no question: the error and the place of DecodeProp.
func TestBytesThatAreNoQuestion(t *testing.T) {
	net, prop := encoded(t, wide(), samples.Question())
	for _, b := range spoilt(prop) {
		_, e, place := code.DecodeProp(b)
		if e == api.OK {
			t.Fatalf("%x is a question", b)
		}
		expectBytes(t, net, b, malformedBytes(e, 2, place))
	}
	expectBytes(t, net, []byte("AMBN\x01"), malformedBytes(api.ErrMagic, 2, 0))
	expectBytes(t, net, []byte("AMBP\x00"), malformedBytes(api.ErrVersion, 2, 4))
	expectBytes(t, net, append(prop, 0), malformedBytes(api.ErrRest, 2, len(prop)))
	expectBytes(t, net, make([]byte, api.MaxFile+1), malformedBytes(api.ErrLong, 2, api.MaxFile))
}

// 19.4: a question that does not fit its network: the error and the place of model.CheckProp.
func TestQuestionsThatDoNotFit(t *testing.T) {
	net, prop := encoded(t, wide(), samples.Question())
	if v := Verify(net, prop); v.Kind == api.Malformed {
		t.Fatalf("%+v", v)
	}
	expect := func(e api.Errno, place int, change func(p *api.Prop)) {
		t.Helper()
		p := samples.Question()
		change(&p)
		_, prop := encoded(t, wide(), p)
		if f, at := model.CheckProp(p, 3, 4); f != e || at != place {
			t.Fatalf("%v %d", f, at)
		}
		expectBytes(t, net, prop, malformedBytes(e, 2, place))
	}
	expect(api.ErrCount, 0, func(p *api.Prop) { p.C, p.G = numbers(1, 2), nil })
	expect(api.ErrCount, 6, func(p *api.Prop) { p.Claims, p.Target = lists(numbers(1, 2, 3)), 1 })
	expect(api.ErrCount, 1, func(p *api.Prop) { p.Claims, p.G, p.Target = lists(numbers(1, 2, 3, 4, 5, 6)), nil, -1 })
	expect(api.ErrTarget, 0, func(p *api.Prop) { p.Claims, p.Target = nil, 4 })
	expect(api.ErrTarget, 0, func(p *api.Prop) { p.Claims, p.Target = nil, 255 })
	// One output has no other class.
	one, _ := encoded(t, netOf(3, dense(numbers(1, 1, 1), numbers(0))), samples.Question())
	p := samples.Question()
	p.Claims, p.Target = nil, 0
	_, alone := encoded(t, wide(), p)
	expectBytes(t, one, alone, malformedBytes(api.ErrTarget, 2, 0))
}

// 19.5: a done that is closed stops what is well formed and what is not; one that is open, or none, stops nothing.
func TestClosedDone(t *testing.T) {
	n, p := cases.Example(true)
	net, prop := encoded(t, n, p)
	for workers := 1; workers <= 16; workers++ {
		for _, b := range [][]byte{net, nil} {
			expectNoSide(t, closed(), workers, b, prop, api.ErrStopped)
			expectNoSide(t, closed(), workers, b, nil, api.ErrStopped)
		}
		expectSide(t, nil, workers, net, prop, falsifiedAt(1, 0.25, 1, -1))
		expectSide(t, api.NewStop().Done(), workers, net, prop, falsifiedAt(1, 0.25, 1, -1))
		expectSide(t, api.NewStop().Done(), workers, nil, prop, malformedBytes(api.ErrMagic, 1, 0))
		expectSide(t, api.NewStop().Done(), workers, net, nil, malformedBytes(api.ErrMagic, 2, 0))
	}
}

// long is a question that has many regions looked at.
func long() (api.Net, api.Prop) {
	return cases.Kinks(-0.875, -0.625, -0.375, -0.125, 0.125, 0.375, 0.625, 0.875), cases.Unit(numbers(1, 0))
}

// 19.5: where done is closed meanwhile, either ErrStopped alone is told, or the verdict.
func TestClosedMeanwhile(t *testing.T) {
	n, p := long()
	net, prop := encoded(t, n, p)
	want := Verify(net, prop)
	if want.Looked < 500 {
		t.Fatalf("%+v", want)
	}
	stops := 0
	for i := range 40 {
		stop := api.NewStop()
		told := make(chan struct{})
		go func() {
			time.Sleep(time.Duration(i*i) * 20 * time.Microsecond)
			stop.Close()
			close(told)
		}()
		v, e := Side(stop.Done(), 1+i%16, net, prop)
		<-told
		switch {
		case e == api.ErrStopped && sameVerdict(v, api.Verdict{}):
			stops++
		case e != api.OK || !sameVerdict(v, want):
			t.Errorf("%+v %v, neither stopped nor %+v", v, e, want)
		}
		expectNoSide(t, stop.Done(), 1, net, prop, api.ErrStopped)
	}
	if stops == 0 {
		t.Error("nothing was ever stopped")
	}
}
