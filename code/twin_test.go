package code

import (
	"math"
	"slices"
	"strings"
	"testing"
	"unicode/utf8"

	"ambit/api"
	"ambit/model"
	"ambit/oracle"
	"ambit/samples"
)

// A twin reads bytes by the document's words once more, without wire: it keeps the first error, and reads nothing behind it.
type twin struct {
	b     []byte
	at    int
	e     api.Errno
	place int
}

func (w *twin) wrong(is bool, e api.Errno, place int) {
	if is && w.e == api.OK {
		w.e, w.place = e, place
	}
}

func (w *twin) fine() bool { return w.e == api.OK }

// left is how many bytes are left; none behind an error.
func (w *twin) left() int {
	if !w.fine() {
		return 0
	}
	return len(w.b) - w.at
}

func (w *twin) head(magic string) {
	w.wrong(len(w.b) > 1048576, api.ErrLong, 1048576)
	w.wrong(!strings.HasPrefix(string(w.b), magic), api.ErrMagic, 0)
	w.wrong(len(w.b) < 5 || w.b[4] != 1, api.ErrVersion, 4)
	w.at = 5
}

func (w *twin) whole() int {
	start, n := w.at, 0
	for i := range 9 {
		if w.left() == 0 {
			w.wrong(true, api.ErrShort, start)
			return 0
		}
		x := w.b[w.at]
		w.at++
		n += int(x%128) << (7 * i)
		if x < 128 {
			w.wrong(x == 0 && i > 0, api.ErrForm, start)
			return n
		}
	}
	w.wrong(true, api.ErrWide, start)
	return 0
}

// placed is a whole number, and where it begins.
func (w *twin) placed() (start, n int) {
	start = w.at
	return start, w.whole()
}

func (w *twin) number() float64 {
	if w.left() < 8 {
		w.wrong(true, api.ErrShort, w.at)
		return 0
	}
	bits := uint64(0)
	for i := range 8 {
		bits |= uint64(w.b[w.at+i]) << (8 * i)
	}
	a := math.Float64frombits(bits)
	w.wrong(math.IsNaN(a) || math.IsInf(a, 0), api.ErrFloat, w.at)
	w.at += 8
	return a
}

func (w *twin) numbers(n int) []float64 {
	var l []float64
	for len(l) < n && w.fine() {
		l = append(l, w.number())
	}
	return l
}

func (w *twin) complexNumbers(n int) []complex128 {
	parts := w.numbers(2 * n)
	var l []complex128
	for i := 1; i < len(parts); i += 2 {
		l = append(l, api.Complex(api.Bits(parts[i-1]), api.Bits(parts[i])))
	}
	return l
}

func (w *twin) text(most int) string {
	start, n := w.placed()
	w.wrong(n > most, api.ErrBig, start)
	w.wrong(n > w.left(), api.ErrShort, start)
	if !w.fine() {
		return ""
	}
	s := string(w.b[w.at : w.at+n])
	w.wrong(!utf8.ValidString(s), api.ErrUTF, start)
	w.at += n
	return s
}

func (w *twin) end() {
	w.wrong(w.left() < 4, api.ErrShort, w.at)
	if !w.fine() {
		return
	}
	w.wrong(!slices.Equal(sealed(w.b[:w.at]...), w.b[:w.at+4]), api.ErrSum, w.at)
	w.wrong(len(w.b) > w.at+4, api.ErrRest, w.at+4)
}

// layer reads the layer behind those of a network, of which lists of noughts are enough to ask model.Check.
func (w *twin) layer(n api.Net, ahead api.Shape) (api.Layer, api.Shape) {
	start := w.at
	l := api.Layer{Kind: w.whole()}
	if l.Kind >= 1 && l.Kind <= 12 {
		for _, name := range strings.Fields(fieldsOf(l.Kind)) {
			if name == "A" {
				l.A = w.number()
			} else {
				*fieldNamed(&l, name) = w.whole()
			}
		}
	}
	if !w.fine() {
		return l, ahead
	}
	out, _ := model.Out(l, ahead)
	i, j, k, m, _ := model.Lists(l, ahead)
	asked := l
	asked.W, asked.B, asked.Z, asked.ZB = make([]float64, i), make([]float64, j), make([]complex128, k), make([]complex128, m)
	n.Layers = append(slices.Clone(n.Layers), asked)
	e, _ := model.Check(n)
	w.wrong(e != api.OK, e, start)
	l.W, l.B, l.Z, l.ZB = w.numbers(i), w.numbers(j), w.complexNumbers(k), w.complexNumbers(m)
	return l, out
}

// twinNet is what DecodeNet must tell.
func twinNet(b []byte) (api.Net, api.Errno, int) {
	w := twin{b: b}
	w.head("AMBN")
	var n api.Net
	n.In.C, n.In.H, n.In.W = w.whole(), w.whole(), w.whole()
	if size := n.In.C | n.In.H | n.In.W; w.fine() && (min(n.In.C, n.In.H, n.In.W) < 1 || size > 511 || n.In.C*n.In.H*n.In.W > 256) {
		w.wrong(true, api.ErrShape, 5)
	}
	start, count := w.placed()
	w.wrong(count > 64, api.ErrSize, start)
	shape := n.In
	for m := 0; m < count && w.fine(); m++ {
		var l api.Layer
		l, shape = w.layer(n, shape)
		n.Layers = append(n.Layers, l)
	}
	start, count = w.placed()
	w.wrong(count != 0 && count != shape.C*shape.H*shape.W, api.ErrCount, start)
	seen := map[string]bool{}
	for i := 0; i < count && w.fine(); i++ {
		start = w.at
		s := w.text(128)
		w.wrong(!model.Name(s) || seen[s], api.ErrName, start)
		seen[s] = true
		n.Names = append(n.Names, s)
	}
	w.end()
	if !w.fine() {
		return api.Net{}, w.e, w.place
	}
	return n, api.OK, 0
}

// twinProp is what DecodeProp must tell.
func twinProp(b []byte) (api.Prop, api.Errno, int) {
	w := twin{b: b}
	w.head("AMBP")
	var p api.Prop
	width := w.whole()
	w.wrong(width < 1 || width > 256, api.ErrSize, 5)
	p.C = w.numbers(width)
	start, count := w.placed()
	w.wrong(count > 256, api.ErrSize, start)
	for k := 0; k < count && w.fine(); k++ {
		p.G = append(p.G, w.numbers(width))
	}
	target := w.at
	p.Target = w.whole() - 1
	start, count = w.placed()
	w.wrong(count > 64, api.ErrSize, start)
	for k := 0; k < count && w.fine(); k++ {
		start = w.at
		length := w.whole()
		w.wrong(length < 2 || length > 257 || k > 0 && length != len(p.Claims[0]), api.ErrCount, start)
		p.Claims = append(p.Claims, w.numbers(length))
	}
	p.K, p.Depth, p.Looks = w.whole(), w.whole(), w.whole()
	outputs := 2
	switch {
	case len(p.Claims) > 0:
		outputs = len(p.Claims[0]) - 1
	case p.Target > 1:
		outputs = p.Target + 1
	}
	e, _ := model.CheckProp(p, len(p.C), outputs)
	w.wrong(e != api.OK, e, target)
	w.end()
	if !w.fine() {
		return api.Prop{}, w.e, w.place
	}
	return p, api.OK, 0
}

// spoilt is a layout in which something was changed, mostly where a thing begins; mostly its sum is made right.
func spoilt(m *oracle.Mixer, o layout) []byte {
	b := slices.Clone(o.b)
	for range 1 + m.Below(3) {
		at := o.begins[m.Below(min(len(o.begins), 1+m.Below(40)))]
		if m.Below(4) == 0 || at >= len(b) {
			at = m.Below(len(b))
		}
		value := []byte{0, 1, 2, 12, 13, 64, 65, 127, 128, 129, 255, byte(m.Word())}[m.Below(12)]
		switch m.Below(8) {
		case 0:
			b = slices.Insert(b, at, value)
		case 1:
			b = slices.Delete(b, at, at+1)
		case 2:
			b = b[:at]
		case 3:
			b[at] ^= 1 << m.Below(8)
		case 4:
			b = append(b, b[at:]...)
		case 5:
			b = append(b[:at:at], joined(greatest(), b[at:])...)
		default:
			b[at] = value
		}
		if len(b) < 4 {
			return b
		}
	}
	switch m.Below(6) {
	case 0:
		return b
	case 1:
		return append(resealed(b), 1)
	case 2:
		return sealed(b...)
	}
	return resealed(b)
}

// 8.2: whatever comes, what is told is what the document says.
func TestTwinOfNetworks(t *testing.T) {
	var m oracle.Mixer
	seen := map[api.Errno]int{}
	for range 60000 {
		b := spoilt(&m, layNet(samples.MixedNet(&m)))
		want, e, at := twinNet(b)
		got, f, place := DecodeNet(b)
		if f != e || place != at || !samples.SameNet(got, want) {
			t.Fatalf("DecodeNet(%x): %+v %v %d, not %+v %v %d", b, got, f, place, want, e, at)
		}
		seen[e]++
	}
	for _, e := range []api.Errno{api.OK, api.ErrShort, api.ErrForm, api.ErrWide, api.ErrBig, api.ErrUTF, api.ErrFloat, api.ErrSum, api.ErrShape, api.ErrKind, api.ErrField, api.ErrCount, api.ErrSize, api.ErrFrom, api.ErrName, api.ErrMagic, api.ErrVersion, api.ErrRest} {
		if seen[e] < 20 {
			t.Errorf("%v came up %d times only", e, seen[e])
		}
	}
}

// 8.5: likewise of questions.
func TestTwinOfQuestions(t *testing.T) {
	var m oracle.Mixer
	seen := map[api.Errno]int{}
	for range 60000 {
		b := spoilt(&m, layProp(samples.MixedProp(&m)))
		want, e, at := twinProp(b)
		got, f, place := DecodeProp(b)
		if f != e || place != at || !samples.SameProp(got, want) {
			t.Fatalf("DecodeProp(%x): %+v %v %d, not %+v %v %d", b, got, f, place, want, e, at)
		}
		seen[e]++
	}
	for _, e := range []api.Errno{api.OK, api.ErrArg, api.ErrShort, api.ErrForm, api.ErrWide, api.ErrFloat, api.ErrSum, api.ErrCount, api.ErrSize, api.ErrTarget, api.ErrBudget, api.ErrMagic, api.ErrVersion, api.ErrRest} {
		if seen[e] < 20 {
			t.Errorf("%v came up %d times only", e, seen[e])
		}
	}
}
