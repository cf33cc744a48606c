package audit

import (
	"slices"
	"testing"

	"ambit/api"
	"ambit/cases"
	"ambit/code"
	"ambit/model"
	"ambit/samples"
)

// noForms are bytes that are none any more.
func noForms(b []byte) [][]byte {
	all := [][]byte{nil, {}, []byte("AMB"), b[:4], b[:len(b)-1], append(slices.Clone(b), 0), make([]byte, api.MaxFile+1), make([]byte, api.MaxFile)}
	for i := range b {
		other := slices.Clone(b)
		other[i] ^= 1 << (i % 8)
		all = append(all, other)
	}
	return all
}

// expectRefused holds Account and Check to an error, whatever the account is.
func expectRefused(t *testing.T, net, prop []byte, want api.Errno, accounts ...[]byte) {
	t.Helper()
	expectNoAccount(t, net, prop, want)
	for _, b := range append(accounts, nil, about(0), []byte("AMBA\x01"), make([]byte, api.MaxFile+1)) {
		expectNoCheck(t, net, prop, b, want)
	}
}

// 20.2, 20.3: bytes that are no network: the error of DecodeNet, whatever the question and the account are.
func TestBytesThatAreNoNetwork(t *testing.T) {
	net, prop := exampleBytes(t, false)
	that := laid(net, prop, 0.5, 0)
	for _, b := range append(noForms(net), prop, that) {
		_, e, _ := code.DecodeNet(b)
		if e == api.OK {
			t.Fatalf("%x is a network", b)
		}
		expectRefused(t, b, prop, e, that)
		expectRefused(t, b, nil, e, that)
	}
	expectRefused(t, []byte("AMBN\x02"), prop, api.ErrVersion, that)
	expectRefused(t, []byte("AMBN\x01\x00\x01\x01"), nil, api.ErrShape, that)
	expectRefused(t, append(slices.Clone(net), 0), nil, api.ErrRest, that)
}

// 20.2, 20.3: bytes that are no question: the error of DecodeProp, whatever the account is.
func TestBytesThatAreNoQuestion(t *testing.T) {
	net, prop := exampleBytes(t, false)
	that := laid(net, prop, 0.5, 0)
	for _, b := range append(noForms(prop), net, that) {
		_, e, _ := code.DecodeProp(b)
		if e == api.OK {
			t.Fatalf("%x is a question", b)
		}
		expectRefused(t, net, b, e, that)
	}
	expectRefused(t, net, []byte("AMBP\x00"), api.ErrVersion, that)
	expectRefused(t, net, make([]byte, api.MaxFile+1), api.ErrLong, that)
}

// 20.2, 20.3: a question that does not fit its network: the error of CheckProp, ahead of what the account is.
func TestQuestionsThatDoNotFit(t *testing.T) {
	n := samples.Network(samples.Line(3), samples.Relu(), samples.Dense(4))
	net, _ := encoded(t, n, samples.Question())
	expect := func(want api.Errno, change func(p *api.Prop)) {
		t.Helper()
		p := samples.Question()
		change(&p)
		_, prop := encoded(t, n, p)
		if e, _ := model.CheckProp(p, 3, 4); e != want {
			t.Fatal(e)
		}
		expectRefused(t, net, prop, want, laid(net, prop, 0.5, 0))
	}
	expect(api.ErrCount, func(p *api.Prop) { p.C, p.G = numbers(1, 2), nil })
	expect(api.ErrCount, func(p *api.Prop) { p.C, p.G = numbers(1, 2, 3, 4), nil })
	expect(api.ErrCount, func(p *api.Prop) { p.Claims, p.Target = lists(numbers(1, 2, 3)), 1 })
	expect(api.ErrTarget, func(p *api.Prop) { p.Claims, p.Target = nil, 4 })
	expect(api.ErrTarget, func(p *api.Prop) { p.Claims, p.Target = nil, 255 })
	// One output has no other class.
	p := samples.Question()
	p.Claims, p.Target = nil, 0
	one, prop := encoded(t, samples.Network(samples.Line(3), samples.Dense(1)), p)
	expectRefused(t, one, prop, api.ErrTarget, laid(one, prop, 0.5, 0))
}

// 20.2: the errors of Parts, for as many symbols as the question has.
func TestAccountsThatAreNone(t *testing.T) {
	net, prop := exampleBytes(t, false)
	for _, b := range append(noForms(laid(net, prop, 0.5, 0)), noForms(laid(net, prop, 0.5, 1, 1, 0, 0, 0))...) {
		_, e := wantParts(b, 1)
		if e == api.OK {
			t.Fatalf("%x is an account", b)
		}
		expectNoCheck(t, net, prop, b, e)
	}
	for s := range 4 {
		p := cases.Asked(lists(numbers(1, 0)), numbers(8), numbers(1), numbers(1), numbers(1))
		p.G = p.G[:s]
		net, prop := encoded(t, netOf(1), p)
		for name := 1; name < 6; name++ {
			b := laid(net, prop, float64(8-s), tokens(name, 0, 0)...)
			if name <= s {
				expectCheck(t, net, prop, b, float64(8-s))
			} else {
				expectNoCheck(t, net, prop, b, api.ErrAccount)
			}
		}
	}
}

// 20.2, rule 5: where all of it is wrong, each error comes as the ones ahead of it are mended.
func TestOrderOfErrors(t *testing.T) {
	n, p := cases.Kinks(-0.5, 0.5), cases.Unit(numbers(1, 0.125))
	net, prop := encoded(t, n, p)
	short := cases.Asked(lists(numbers(1, 0)), numbers(1, 2))
	_, unfit := encoded(t, n, short)
	other := laid(prop, net, 3, 0)
	torn := append(slices.Clone(other), 0)
	expectNoCheck(t, net[1:], prop[:9], torn, api.ErrMagic)
	expectNoCheck(t, net, prop[:9], torn, api.ErrShort)
	expectNoCheck(t, net, unfit, torn, api.ErrCount)
	expectNoCheck(t, net, prop, torn, api.ErrRest)
	expectNoCheck(t, net, prop, other, api.ErrAccount)
	expectNoCheck(t, net, prop, laid(net, prop, 3, 0), api.ErrOpen)
	expectNoCheck(t, net, prop, laid(net, prop, 3, 1, 1, 0, 0, 1, 0, 0), api.ErrAccount)
	expectCheck(t, net, prop, laid(net, prop, 0.125, 1, 1, 0, 0, 1, 0, 0), 0.125)
}
