package code

import (
	"bytes"
	"fmt"
	"math"
	"slices"
	"strings"
	"testing"

	"ambit/api"
	"ambit/model"
	"ambit/oracle"
	"ambit/samples"
)

// 8.1, 8.4, 8.6: back, bit for bit.
func TestBack(t *testing.T) {
	var m oracle.Mixer
	for range 20000 {
		n, p := samples.MixedNet(&m), samples.MixedProp(&m)
		expectNetBytes(t, n, layNet(n).b)
		expectPropBytes(t, p, layProp(p).b)
		if t.Failed() {
			return
		}
	}
}

// greatNet is a network of as many bytes as any has: numbers, layers and names up to their limits.
func greatNet() api.Net {
	n := samples.Network(samples.Shape(255, 1, 1), samples.Dense(256))
	for range 63 {
		n.Layers = append(n.Layers, samples.Windowed(api.KMean, 1, 1, 1, 1, 0, 0))
	}
	for i := range 256 {
		n.Names = append(n.Names, strings.Repeat("𝄞", 31)+string(rune(0x10000+i)))
	}
	return n
}

// 8.1, 8.4, 8.6: the greatest ones fit in MaxFile.
func TestGreatest(t *testing.T) {
	n := greatNet()
	expectNetBytes(t, n, layNet(n).b)
	p := api.Prop{C: samples.Counted(256), Target: 255, K: 8, Depth: 8, Looks: 1024}
	for k := range 256 {
		p.G = append(p.G, samples.Counted(257)[1:])
		p.G[k][0] = float64(k)
	}
	for i := range 64 {
		p.Claims = append(p.Claims, samples.Counted(257))
		p.Claims[i][256] = float64(i)
	}
	expectPropBytes(t, p, layProp(p).b)
	for _, b := range [][]byte{layNet(n).b, layProp(p).b} {
		if len(b) > api.MaxFile || len(b) < 8*65536 {
			t.Errorf("%d bytes", len(b))
		}
	}
}

// expectOneForm holds what is read to being written just so, and to being what may be; it tells whether something was read.
func expectOneForm(t *testing.T, b []byte) bool {
	t.Helper()
	n, e, _ := DecodeNet(b)
	p, f, _ := DecodeProp(b)
	switch {
	case e == api.OK && f == api.OK:
		t.Errorf("%x is a network and a question", b)
	case e == api.OK:
		if c, g, at := EncodeNet(n); g != api.OK || at != 0 || !bytes.Equal(b, c) {
			t.Errorf("%x is read as %+v, which is %x %v at %d", b, n, c, g, at)
		}
		if g, at := model.Check(n); g != api.OK || at != 0 {
			t.Errorf("%x is read as %+v: %v at %d", b, n, g, at)
		}
	case f == api.OK:
		if c, g, at := EncodeProp(p); g != api.OK || at != 0 || !bytes.Equal(b, c) {
			t.Errorf("%x is read as %+v, which is %x %v at %d", b, p, c, g, at)
		}
		if g, at := CheckForm(p); g != api.OK || at != 0 {
			t.Errorf("%x is read as %+v: %v at %d", b, p, g, at)
		}
	}
	return e == api.OK || f == api.OK
}

// 8.7: one form, whatever is read.
func TestOneForm(t *testing.T) {
	var m oracle.Mixer
	read := 0
	for range 20000 {
		for _, o := range []layout{layNet(samples.MixedNet(&m)), layProp(samples.MixedProp(&m))} {
			if expectOneForm(t, spoilt(&m, o)) {
				read++
			}
		}
		if t.Failed() {
			return
		}
	}
	if read < 1000 {
		t.Errorf("%d were read only", read)
	}
}

// forms are the bytes of all ordinary networks and questions.
func forms() [][]byte {
	var all [][]byte
	for _, n := range samples.Nets() {
		all = append(all, layNet(n).b)
	}
	for _, p := range samples.Props() {
		all = append(all, layProp(p).b)
	}
	return all
}

// 8.7: every bit of a form means something: turned, with the sum made right, it is refused, or something else that is written just so.
func TestTurnedBitsWithTheSumMadeRight(t *testing.T) {
	for _, b := range forms() {
		read := 0
		for i := range 8 * (len(b) - 4) {
			for j := i; j < min(i+5, 8*(len(b)-4)); j++ {
				turned := slices.Clone(b)
				turned[i/8] ^= 1 << (i % 8)
				if j > i {
					turned[j/8] ^= 1 << (j % 8)
				}
				if expectOneForm(t, resealed(turned)) {
					read++
				}
			}
		}
		if t.Failed() {
			return
		}
		if read == 0 {
			t.Errorf("nothing else was read beside %s", shown(b))
		}
	}
}

// 8.7: two unlike networks have unlike bytes, and so have two unlike questions.
func TestUnlikeBytes(t *testing.T) {
	seen := map[string]int{}
	for i, n := range samples.Nets() {
		b, _, _ := EncodeNet(n)
		if k, twice := seen[string(b)]; twice {
			t.Errorf("the networks %d and %d have the same bytes", k, i)
		}
		seen[string(b)] = i
	}
	a, b := samples.Network(samples.Line(1), samples.Leaky(0)), samples.Network(samples.Line(1), samples.Leaky(oracle.MinusZero()))
	x, _, _ := EncodeNet(a)
	y, _, _ := EncodeNet(b)
	if bytes.Equal(x, y) || len(x) != len(y) {
		t.Errorf("0 and -0: %x and %x", x, y)
	}
}

// expectSpoilt holds both readers to refusing bytes.
func expectSpoilt(t *testing.T, b []byte, how string) {
	n, e, _ := DecodeNet(b)
	p, f, _ := DecodeProp(b)
	if e == api.OK || f == api.OK || !samples.SameNet(n, api.Net{}) || !samples.SameProp(p, api.Prop{}) {
		t.Fatalf("%s: %s: %v and %v", how, shown(b), e, f)
	}
}

// 8.8: of the smallest forms, every one to three bits.
func TestThreeBitsOfSmallForms(t *testing.T) {
	for _, b := range [][]byte{layNet(samples.Nets()[0]).b, layNet(samples.Nets()[1]).b, layProp(samples.Props()[0]).b} {
		turn := func(i int) { b[i/8] ^= 1 << (i % 8) }
		for i := range 8 * len(b) {
			turn(i)
			expectSpoilt(t, b, "one bit")
			for j := range i {
				turn(j)
				expectSpoilt(t, b, "two bits")
				for k := range j {
					turn(k)
					expectSpoilt(t, b, "three bits")
					turn(k)
				}
				turn(j)
			}
			turn(i)
		}
	}
}

// 8.8: of greater ones each bit, and many twos and threes.
func TestBitsOfForms(t *testing.T) {
	var m oracle.Mixer
	for _, b := range forms() {
		for i := range 8 * len(b) {
			for range 4 {
				turned := slices.Clone(b)
				turned[i/8] ^= 1 << (i % 8)
				expectSpoilt(t, turned, "one bit")
				j := (i + 1 + m.Below(8*len(b)-1)) % (8 * len(b))
				turned[j/8] ^= 1 << (j % 8)
				expectSpoilt(t, turned, "two bits")
				if k := m.Below(8 * len(b)); k != i && k != j {
					turned[k/8] ^= 1 << (k % 8)
					expectSpoilt(t, turned, "three bits")
				}
			}
		}
	}
}

// 8.8: bits within 32 that follow one another, wherever they begin.
func TestBurstsOfForms(t *testing.T) {
	var m oracle.Mixer
	for _, b := range forms() {
		for i := range 8 * len(b) {
			for _, mask := range []uint32{math.MaxUint32, 0xff, 0x80000001, uint32(m.Word()), uint32(m.Word()), uint32(m.Word())} {
				turned := slices.Clone(b)
				for k := range min(32, 8*len(b)-i) {
					turned[(i+k)/8] ^= byte(mask>>k&1) << ((i + k) % 8)
				}
				if !bytes.Equal(turned, b) {
					expectSpoilt(t, turned, "a burst")
				}
			}
		}
	}
}

// place is where the thing begins in which a form is cut.
func (o layout) place(cut int) int {
	i, _ := slices.BinarySearch(o.begins, cut+1)
	return o.begins[i-1]
}

// expectCut holds a reader's answers to a form that is cut at each byte.
func expectCut(t *testing.T, o layout, expect func(t *testing.T, b []byte, e api.Errno, at int)) {
	t.Helper()
	for cut := range o.b {
		e := api.ErrShort
		switch {
		case cut < 4:
			e = api.ErrMagic
		case cut == 4:
			e = api.ErrVersion
		}
		expect(t, o.b[:cut], e, o.place(cut))
		expect(t, slices.Clone(o.b[:cut]), e, o.place(cut)) // with no room behind
	}
}

// 8.2, 8.5, 8.8: a cut at every byte is told where the thing begins that is cut.
func TestCuts(t *testing.T) {
	for _, n := range samples.Nets() {
		expectCut(t, layNet(n), expectNoNet)
	}
	for _, p := range samples.Props() {
		expectCut(t, layProp(p), expectNoProp)
	}
}

// 8.8: with any bytes behind they are refused.
func TestBytesBehind(t *testing.T) {
	var m oracle.Mixer
	for _, n := range samples.Nets() {
		b := layNet(n).b
		for range 300 {
			more := slices.Clone(b)
			for range 1 + m.Below(20) {
				more = append(more, byte(m.Word()))
			}
			expectNoNet(t, more, api.ErrRest, len(b))
			expectNoNet(t, sealed(more...), api.ErrRest, len(b))
		}
		expectNoNet(t, append(slices.Clone(b), b...), api.ErrRest, len(b))
	}
	for _, p := range samples.Props() {
		b := layProp(p).b
		for range 300 {
			more := append(slices.Clone(b), byte(m.Word()))
			expectNoProp(t, more, api.ErrRest, len(b))
			expectNoProp(t, sealed(more...), api.ErrRest, len(b))
		}
		expectNoProp(t, append(slices.Clone(b), b...), api.ErrRest, len(b))
	}
}

// 8.2, 8.5: a network is no question, and a question no network.
func TestOthersForms(t *testing.T) {
	for _, n := range samples.Nets() {
		expectNoProp(t, layNet(n).b, api.ErrMagic, 0)
	}
	for _, p := range samples.Props() {
		expectNoNet(t, layProp(p).b, api.ErrMagic, 0)
	}
}

// anyBytes are some that look like none in particular, often behind a good beginning, often of small numbers.
func anyBytes(m *oracle.Mixer) []byte {
	b := [][]byte{nil, netBytes(), propBytes(), netBytes([]byte{1, 2, 3}), propBytes([]byte{1}, noughts(8))}[m.Below(5)]
	small := m.Below(2) == 0
	for range m.Below(60) {
		x := byte(m.Word())
		if small {
			x %= 14
		}
		b = append(b, x)
	}
	if m.Below(2) == 0 {
		return sealed(b...)
	}
	return b
}

// 8.9: whatever is handed in, every call ends, and tells nothing beside an error.
func TestAnyInputs(t *testing.T) {
	var m oracle.Mixer
	for range 60000 {
		b := anyBytes(&m)
		if n, e, at := DecodeNet(b); e != api.OK && !samples.SameNet(n, api.Net{}) || e == api.OK && at != 0 || at < 0 || at > len(b) {
			t.Fatalf("DecodeNet(%x): %+v %v %d", b, n, e, at)
		}
		if p, e, at := DecodeProp(b); e != api.OK && !samples.SameProp(p, api.Prop{}) || e == api.OK && at != 0 || at < 0 || at > len(b) {
			t.Fatalf("DecodeProp(%x): %+v %v %d", b, p, e, at)
		}
		n := samples.AnyNet(&m)
		e, at := model.Check(n)
		if c, f, place := EncodeNet(n); f != e || place != at || (f == api.OK) != (len(c) > 0) {
			t.Fatalf("EncodeNet(%+v): %x %v %d, not %v %d", n, c, f, place, e, at)
		}
		p := samples.AnyProp(&m)
		e, at = CheckForm(p)
		if c, f, place := EncodeProp(p); f != e || place != at || (f == api.OK) != (len(c) > 0) {
			t.Fatalf("EncodeProp(%+v): %x %v %d, not %v %d", p, c, f, place, e, at)
		}
	}
}

// 8.9: what is handed in stays as it was, and the room behind it too; the bytes that are told are memory of their own.
func TestWritersChangeNothing(t *testing.T) {
	n, p := samples.RoomyNet(), samples.RoomyProp()
	before, asked := samples.WholeNet(n), samples.WholeProp(p)
	for range 2 {
		b, _, _ := EncodeNet(n)
		c, _, _ := EncodeProp(p)
		if !bytes.Equal(b, layNet(n).b) || !bytes.Equal(c, layProp(p).b) {
			t.Error("other bytes")
		}
		d, _, _ := EncodeNet(n)
		samples.Scribble(b, 9)
		samples.Scribble(c, 9)
		if !bytes.Equal(d, layNet(n).b) || !samples.SameNet(samples.WholeNet(n), before) || !samples.SameProp(samples.WholeProp(p), asked) {
			t.Error("an answer was written into, and something else changed")
		}
	}
	n.Names[2], p.K = n.Names[0], 9
	before, asked = samples.WholeNet(n), samples.WholeProp(p)
	expectNoNetBytes(t, n, api.ErrName, 0)
	expectForm(t, p, api.ErrBudget, 0)
	if !samples.SameNet(samples.WholeNet(n), before) || !samples.SameProp(samples.WholeProp(p), asked) {
		t.Error("what is refused was changed")
	}
}

// 8.9: bytes stay as they were, the room behind them too, and what was read does not go with them.
func TestReadersChangeAndKeepNothing(t *testing.T) {
	for _, form := range forms() {
		b := samples.Roomy(form, 0x77)
		for cut := range len(form) + 1 {
			before := slices.Clone(samples.Whole(b[:cut]))
			n, _, _ := DecodeNet(b[:cut])
			p, _, _ := DecodeProp(b[:cut])
			if !bytes.Equal(samples.Whole(b[:cut]), before) {
				t.Fatalf("%s was changed", shown(form))
			}
			if cut == len(form) {
				told := fmt.Sprintf("%+v %+v", n, p)
				samples.Scribble(b, 0x55)
				if fmt.Sprintf("%+v %+v", n, p) != told {
					t.Errorf("what was read went with the bytes %s", shown(form))
				}
			}
		}
	}
}

// 8.9: no two lists of an answer share any, and none shares with another answer's.
func TestListsOfNetworksAreApart(t *testing.T) {
	b := layNet(samples.Chain()).b
	read := func() api.Net {
		n, _, _ := DecodeNet(b)
		return n
	}
	numbers, pairs := samples.Lists(read())
	for i := range numbers {
		first, second := read(), read()
		numbers, pairs = samples.Lists(first)
		samples.Scribble(numbers[i], -99)
		samples.Scribble(pairs[i], -99i)
		want := samples.Chain()
		wantNumbers, wantPairs := samples.Lists(want)
		for k := range numbers {
			if k != i && (!samples.SameNumbers(numbers[k], wantNumbers[k]) || !slices.EqualFunc(pairs[k], wantPairs[k], samples.SameComplex)) {
				t.Errorf("the list %d was written into, and %d changed", i, k)
			}
		}
		samples.Scribble(first.Names, "-")
		samples.Scribble(first.Layers, api.Layer{})
		if !samples.SameNet(second, want) || !samples.SameNet(read(), want) {
			t.Error("an answer was written into, and another changed")
		}
	}
}

// 8.9
func TestListsOfQuestionsAreApart(t *testing.T) {
	b := layProp(samples.Question()).b
	read := func() api.Prop {
		p, _, _ := DecodeProp(b)
		return p
	}
	all := func(p api.Prop) [][]float64 { return slices.Concat([][]float64{p.C}, p.G, p.Claims) }
	for i := range all(read()) {
		first, second := read(), read()
		samples.Scribble(all(first)[i], -99)
		for k, l := range all(first) {
			if k != i && !samples.SameNumbers(l, all(samples.Question())[k]) {
				t.Errorf("the list %d was written into, and %d changed", i, k)
			}
		}
		samples.Scribble(first.G, nil)
		if !samples.SameLists(first.Claims, second.Claims) && i < 6 {
			t.Error("the columns were written into, and the claims changed")
		}
		samples.Scribble(first.Claims, nil)
		if !samples.SameProp(second, samples.Question()) || !samples.SameProp(read(), samples.Question()) {
			t.Error("an answer was written into, and another changed")
		}
	}
}
