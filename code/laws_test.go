package code

import (
	"bytes"
	"fmt"
	"math"
	"slices"
	"strings"
	"testing"

	"ambit/api"
	"ambit/model"
	"ambit/oracle"
)

// 8.1, 8.4, 8.6: back, bit for bit.
func TestBack(t *testing.T) {
	var m oracle.Mixer
	for range 20000 {
		n, p := mixedNet(&m), mixedProp(&m)
		expectNetBytes(t, n, layNet(n).b)
		expectPropBytes(t, p, layProp(p).b)
		if t.Failed() {
			return
		}
	}
}

// greatNet is a network of as many bytes as any has: numbers, layers and names up to their limits.
func greatNet() api.Net {
	n := network(shape(255, 1, 1), dense(256))
	for range 63 {
		n.Layers = append(n.Layers, windowed(api.KMean, 1, 1, 1, 1, 0, 0))
	}
	for i := range 256 {
		n.Names = append(n.Names, strings.Repeat("𝄞", 31)+string(rune(0x10000+i)))
	}
	return n
}

// 8.1, 8.4, 8.6: the greatest ones fit in MaxFile.
func TestGreatest(t *testing.T) {
	n := greatNet()
	expectNetBytes(t, n, layNet(n).b)
	p := api.Prop{C: counted(256), Target: 255, K: 8, Depth: 8, Looks: 1024}
	for k := range 256 {
		p.G = append(p.G, counted(257)[1:])
		p.G[k][0] = float64(k)
	}
	for i := range 64 {
		p.Claims = append(p.Claims, counted(257))
		p.Claims[i][256] = float64(i)
	}
	expectPropBytes(t, p, layProp(p).b)
	for _, b := range [][]byte{layNet(n).b, layProp(p).b} {
		if len(b) > api.MaxFile || len(b) < 8*65536 {
			t.Errorf("%d bytes", len(b))
		}
	}
}

// expectOneForm holds what is read to being written just so, and to being what may be; it tells whether something was read.
func expectOneForm(t *testing.T, b []byte) bool {
	t.Helper()
	n, e, _ := DecodeNet(b)
	p, f, _ := DecodeProp(b)
	switch {
	case e == api.OK && f == api.OK:
		t.Errorf("%x is a network and a question", b)
	case e == api.OK:
		if c, g, at := EncodeNet(n); g != api.OK || at != 0 || !bytes.Equal(b, c) {
			t.Errorf("%x is read as %+v, which is %x %v at %d", b, n, c, g, at)
		}
		if g, at := model.Check(n); g != api.OK || at != 0 {
			t.Errorf("%x is read as %+v: %v at %d", b, n, g, at)
		}
	case f == api.OK:
		if c, g, at := EncodeProp(p); g != api.OK || at != 0 || !bytes.Equal(b, c) {
			t.Errorf("%x is read as %+v, which is %x %v at %d", b, p, c, g, at)
		}
		if g, at := CheckForm(p); g != api.OK || at != 0 {
			t.Errorf("%x is read as %+v: %v at %d", b, p, g, at)
		}
	}
	return e == api.OK || f == api.OK
}

// 8.7: one form, whatever is read.
func TestOneForm(t *testing.T) {
	var m oracle.Mixer
	read := 0
	for range 20000 {
		for _, o := range []layout{layNet(mixedNet(&m)), layProp(mixedProp(&m))} {
			if expectOneForm(t, spoilt(&m, o)) {
				read++
			}
		}
		if t.Failed() {
			return
		}
	}
	if read < 1000 {
		t.Errorf("%d were read only", read)
	}
}

// forms are the bytes of all ordinary networks and questions.
func forms() [][]byte {
	var all [][]byte
	for _, n := range nets() {
		all = append(all, layNet(n).b)
	}
	for _, p := range props() {
		all = append(all, layProp(p).b)
	}
	return all
}

// 8.7: every bit of a form means something: turned, with the sum made right, it is refused, or something else that is written just so.
func TestTurnedBitsWithTheSumMadeRight(t *testing.T) {
	for _, b := range forms() {
		read := 0
		for i := range 8 * (len(b) - 4) {
			for j := i; j < min(i+5, 8*(len(b)-4)); j++ {
				turned := slices.Clone(b)
				turned[i/8] ^= 1 << (i % 8)
				if j > i {
					turned[j/8] ^= 1 << (j % 8)
				}
				if expectOneForm(t, resealed(turned)) {
					read++
				}
			}
		}
		if t.Failed() {
			return
		}
		if read == 0 {
			t.Errorf("nothing else was read beside %s", shown(b))
		}
	}
}

// 8.7: two unlike networks have unlike bytes, and so have two unlike questions.
func TestUnlikeBytes(t *testing.T) {
	seen := map[string]int{}
	for i, n := range nets() {
		b, _, _ := EncodeNet(n)
		if k, twice := seen[string(b)]; twice {
			t.Errorf("the networks %d and %d have the same bytes", k, i)
		}
		seen[string(b)] = i
	}
	a, b := network(line(1), leaky(0)), network(line(1), leaky(oracle.MinusZero()))
	x, _, _ := EncodeNet(a)
	y, _, _ := EncodeNet(b)
	if bytes.Equal(x, y) || len(x) != len(y) {
		t.Errorf("0 and -0: %x and %x", x, y)
	}
}

// expectSpoilt holds both readers to refusing bytes.
func expectSpoilt(t *testing.T, b []byte, how string) {
	n, e, _ := DecodeNet(b)
	p, f, _ := DecodeProp(b)
	if e == api.OK || f == api.OK || !sameNet(n, api.Net{}) || !sameProp(p, api.Prop{}) {
		t.Fatalf("%s: %s: %v and %v", how, shown(b), e, f)
	}
}

// 8.8: of the smallest forms, every one to three bits.
func TestThreeBitsOfSmallForms(t *testing.T) {
	for _, b := range [][]byte{layNet(nets()[0]).b, layNet(nets()[1]).b, layProp(props()[0]).b} {
		turn := func(i int) { b[i/8] ^= 1 << (i % 8) }
		for i := range 8 * len(b) {
			turn(i)
			expectSpoilt(t, b, "one bit")
			for j := range i {
				turn(j)
				expectSpoilt(t, b, "two bits")
				for k := range j {
					turn(k)
					expectSpoilt(t, b, "three bits")
					turn(k)
				}
				turn(j)
			}
			turn(i)
		}
	}
}

// 8.8: of greater ones each bit, and many twos and threes.
func TestBitsOfForms(t *testing.T) {
	var m oracle.Mixer
	for _, b := range forms() {
		for i := range 8 * len(b) {
			for range 4 {
				turned := slices.Clone(b)
				turned[i/8] ^= 1 << (i % 8)
				expectSpoilt(t, turned, "one bit")
				j := (i + 1 + m.Below(8*len(b)-1)) % (8 * len(b))
				turned[j/8] ^= 1 << (j % 8)
				expectSpoilt(t, turned, "two bits")
				if k := m.Below(8 * len(b)); k != i && k != j {
					turned[k/8] ^= 1 << (k % 8)
					expectSpoilt(t, turned, "three bits")
				}
			}
		}
	}
}

// 8.8: bits within 32 that follow one another, wherever they begin.
func TestBurstsOfForms(t *testing.T) {
	var m oracle.Mixer
	for _, b := range forms() {
		for i := range 8 * len(b) {
			for _, mask := range []uint32{math.MaxUint32, 0xff, 0x80000001, uint32(m.Word()), uint32(m.Word()), uint32(m.Word())} {
				turned := slices.Clone(b)
				for k := range min(32, 8*len(b)-i) {
					turned[(i+k)/8] ^= byte(mask>>k&1) << ((i + k) % 8)
				}
				if !bytes.Equal(turned, b) {
					expectSpoilt(t, turned, "a burst")
				}
			}
		}
	}
}

// place is where the thing begins in which a form is cut.
func (o layout) place(cut int) int {
	i, _ := slices.BinarySearch(o.begins, cut+1)
	return o.begins[i-1]
}

// expectCut holds a reader's answers to a form that is cut at each byte.
func expectCut(t *testing.T, o layout, expect func(t *testing.T, b []byte, e api.Errno, at int)) {
	t.Helper()
	for cut := range o.b {
		e := api.ErrShort
		switch {
		case cut < 4:
			e = api.ErrMagic
		case cut == 4:
			e = api.ErrVersion
		}
		expect(t, o.b[:cut], e, o.place(cut))
		expect(t, slices.Clone(o.b[:cut]), e, o.place(cut)) // with no room behind
	}
}

// 8.2, 8.5, 8.8: a cut at every byte is told where the thing begins that is cut.
func TestCuts(t *testing.T) {
	for _, n := range nets() {
		expectCut(t, layNet(n), expectNoNet)
	}
	for _, p := range props() {
		expectCut(t, layProp(p), expectNoProp)
	}
}

// 8.8: with any bytes behind they are refused.
func TestBytesBehind(t *testing.T) {
	var m oracle.Mixer
	for _, n := range nets() {
		b := layNet(n).b
		for range 300 {
			more := slices.Clone(b)
			for range 1 + m.Below(20) {
				more = append(more, byte(m.Word()))
			}
			expectNoNet(t, more, api.ErrRest, len(b))
			expectNoNet(t, sealed(more...), api.ErrRest, len(b))
		}
		expectNoNet(t, append(slices.Clone(b), b...), api.ErrRest, len(b))
	}
	for _, p := range props() {
		b := layProp(p).b
		for range 300 {
			more := append(slices.Clone(b), byte(m.Word()))
			expectNoProp(t, more, api.ErrRest, len(b))
			expectNoProp(t, sealed(more...), api.ErrRest, len(b))
		}
		expectNoProp(t, append(slices.Clone(b), b...), api.ErrRest, len(b))
	}
}

// 8.2, 8.5: a network is no question, and a question no network.
func TestOthersForms(t *testing.T) {
	for _, n := range nets() {
		expectNoProp(t, layNet(n).b, api.ErrMagic, 0)
	}
	for _, p := range props() {
		expectNoNet(t, layProp(p).b, api.ErrMagic, 0)
	}
}

// anyBytes are some that look like none in particular, often behind a good beginning, often of small numbers.
func anyBytes(m *oracle.Mixer) []byte {
	b := [][]byte{nil, netBytes(), propBytes(), netBytes([]byte{1, 2, 3}), propBytes([]byte{1}, noughts(8))}[m.Below(5)]
	small := m.Below(2) == 0
	for range m.Below(60) {
		x := byte(m.Word())
		if small {
			x %= 14
		}
		b = append(b, x)
	}
	if m.Below(2) == 0 {
		return sealed(b...)
	}
	return b
}

// anyWhole is a whole number that is often small, and often great.
func anyWhole(m *oracle.Mixer) int {
	if m.Below(12) == 0 {
		return []int{math.MaxInt, math.MinInt, 1 << 62, -1 << 62, 1 << 32, 255, 256, 257, -1, -2}[m.Below(10)]
	}
	return m.Below(4)
}

// anyNet is a network with anything in it.
func anyNet(m *oracle.Mixer) api.Net {
	n := mixedNet(m)
	if m.Below(2) == 0 {
		n.In = shape(anyWhole(m), anyWhole(m), anyWhole(m))
	}
	for i := range n.Layers {
		l := &n.Layers[i]
		switch m.Below(8) {
		case 0:
			l.Kind = anyWhole(m)
		case 1:
			*fieldNamed(l, []string{"Out", "KH", "KW", "SH", "SW", "PH", "PW", "From"}[m.Below(8)]) = anyWhole(m)
		case 2:
			l.A = api.Float(m.Word())
		case 3:
			l.W = append(l.W, math.NaN())
		case 4:
			l.Z = nil
		}
	}
	if m.Below(3) == 0 {
		n.Names = []string{"a", string([]byte{byte(m.Word())})}
	}
	return n
}

// 8.9: whatever is handed in, every call ends, and tells nothing beside an error.
func TestAnyInputs(t *testing.T) {
	var m oracle.Mixer
	for range 60000 {
		b := anyBytes(&m)
		if n, e, at := DecodeNet(b); e != api.OK && !sameNet(n, api.Net{}) || e == api.OK && at != 0 || at < 0 || at > len(b) {
			t.Fatalf("DecodeNet(%x): %+v %v %d", b, n, e, at)
		}
		if p, e, at := DecodeProp(b); e != api.OK && !sameProp(p, api.Prop{}) || e == api.OK && at != 0 || at < 0 || at > len(b) {
			t.Fatalf("DecodeProp(%x): %+v %v %d", b, p, e, at)
		}
		n := anyNet(&m)
		e, at := model.Check(n)
		if c, f, place := EncodeNet(n); f != e || place != at || (f == api.OK) != (len(c) > 0) {
			t.Fatalf("EncodeNet(%+v): %x %v %d, not %v %d", n, c, f, place, e, at)
		}
		p := anyProp(&m)
		e, at = CheckForm(p)
		if c, f, place := EncodeProp(p); f != e || place != at || (f == api.OK) != (len(c) > 0) {
			t.Fatalf("EncodeProp(%+v): %x %v %d, not %v %d", p, c, f, place, e, at)
		}
	}
}

// roomy is a list with more behind its end.
func roomy[T any](l []T, behind T) []T {
	return append(slices.Clone(l), behind, behind, behind)[:len(l)]
}

// whole tells all of a list, with the room behind its end.
func whole[T any](l []T) []T { return l[:cap(l)] }

// scribble writes all over a list, behind its end too.
func scribble[T any](l []T, what T) {
	for i := range whole(l) {
		whole(l)[i] = what
	}
}

func roomyNet() api.Net {
	n := chain()
	for i, l := range n.Layers {
		l.W, l.B = roomy(l.W, 7), roomy(l.B, 8)
		l.Z, l.ZB = roomy(l.Z, 9i), roomy(l.ZB, 10i)
		n.Layers[i] = l
	}
	n.Layers, n.Names = roomy(n.Layers, relu()), roomy(n.Names, "behind")
	return n
}

func roomyProp() api.Prop {
	p := question()
	p.C = roomy(p.C, 7)
	for i, g := range p.G {
		p.G[i] = roomy(g, 8)
	}
	for i, c := range p.Claims {
		p.Claims[i] = roomy(c, 9)
	}
	p.G, p.Claims = roomy(p.G, []float64{1}), roomy(p.Claims, []float64{2})
	return p
}

// netText tells a network, and the room behind its lists.
func netText(n api.Net) string {
	s := fmt.Sprintf("%v %q\n", n.In, whole(n.Names))
	for _, l := range whole(n.Layers) {
		s += fmt.Sprintf("%+v %v %v %v %v\n", l, whole(l.W), whole(l.B), whole(l.Z), whole(l.ZB))
	}
	return s
}

func propText(p api.Prop) string {
	s := fmt.Sprintf("%+v %v\n", p, whole(p.C))
	for _, l := range slices.Concat(whole(p.G), whole(p.Claims)) {
		s += fmt.Sprintln(whole(l))
	}
	return s
}

// 8.9: what is handed in stays as it was, and the room behind it too; the bytes that are told are memory of their own.
func TestWritersChangeNothing(t *testing.T) {
	n, p := roomyNet(), roomyProp()
	before := netText(n) + propText(p)
	for range 2 {
		b, _, _ := EncodeNet(n)
		c, _, _ := EncodeProp(p)
		if !bytes.Equal(b, layNet(n).b) || !bytes.Equal(c, layProp(p).b) {
			t.Error("other bytes")
		}
		d, _, _ := EncodeNet(n)
		scribble(b, 9)
		scribble(c, 9)
		if !bytes.Equal(d, layNet(n).b) || netText(n)+propText(p) != before {
			t.Error("an answer was written into, and something else changed")
		}
	}
	n.Names[2], p.K = n.Names[0], 9
	before = netText(n) + propText(p)
	expectNoNetBytes(t, n, api.ErrName, 0)
	expectForm(t, p, api.ErrBudget, 0)
	if netText(n)+propText(p) != before {
		t.Error("what is refused was changed")
	}
}

// 8.9: bytes stay as they were, the room behind them too, and what was read does not go with them.
func TestReadersChangeAndKeepNothing(t *testing.T) {
	for _, form := range forms() {
		b := roomy(form, 0x77)
		for cut := range len(form) + 1 {
			before := slices.Clone(whole(b[:cut]))
			n, _, _ := DecodeNet(b[:cut])
			p, _, _ := DecodeProp(b[:cut])
			if !bytes.Equal(whole(b[:cut]), before) {
				t.Fatalf("%s was changed", shown(form))
			}
			if cut == len(form) {
				told := fmt.Sprintf("%+v %+v", n, p)
				scribble(b, 0x55)
				if fmt.Sprintf("%+v %+v", n, p) != told {
					t.Errorf("what was read went with the bytes %s", shown(form))
				}
			}
		}
	}
}

// lists are all lists of numbers of a network.
func lists(n api.Net) (numbers [][]float64, pairs [][]complex128) {
	for _, l := range n.Layers {
		numbers = append(numbers, l.W, l.B)
		pairs = append(pairs, l.Z, l.ZB)
	}
	return numbers, pairs
}

// 8.9: no two lists of an answer share any, and none shares with another answer's.
func TestListsOfNetworksAreApart(t *testing.T) {
	b := layNet(chain()).b
	read := func() api.Net {
		n, _, _ := DecodeNet(b)
		return n
	}
	numbers, pairs := lists(read())
	for i := range numbers {
		first, second := read(), read()
		numbers, pairs = lists(first)
		scribble(numbers[i], -99)
		scribble(pairs[i], -99i)
		want := chain()
		wantNumbers, wantPairs := lists(want)
		for k := range numbers {
			if k != i && (!sameNumbers(numbers[k], wantNumbers[k]) || !slices.EqualFunc(pairs[k], wantPairs[k], sameComplex)) {
				t.Errorf("the list %d was written into, and %d changed", i, k)
			}
		}
		scribble(first.Names, "-")
		scribble(first.Layers, api.Layer{})
		if !sameNet(second, want) || !sameNet(read(), want) {
			t.Error("an answer was written into, and another changed")
		}
	}
}

// 8.9
func TestListsOfQuestionsAreApart(t *testing.T) {
	b := layProp(question()).b
	read := func() api.Prop {
		p, _, _ := DecodeProp(b)
		return p
	}
	all := func(p api.Prop) [][]float64 { return slices.Concat([][]float64{p.C}, p.G, p.Claims) }
	for i := range all(read()) {
		first, second := read(), read()
		scribble(all(first)[i], -99)
		for k, l := range all(first) {
			if k != i && !sameNumbers(l, all(question())[k]) {
				t.Errorf("the list %d was written into, and %d changed", i, k)
			}
		}
		scribble(first.G, nil)
		if !sameLists(first.Claims, second.Claims) && i < 6 {
			t.Error("the columns were written into, and the claims changed")
		}
		scribble(first.Claims, nil)
		if !sameProp(second, question()) || !sameProp(read(), question()) {
			t.Error("an answer was written into, and another changed")
		}
	}
}
