package wire

import (
	"bytes"
	"math"
	"testing"

	"ambit/api"
)

// A pair is one of the four writers, by what it wrote of each of some things, and its Read, which tells what was read as the writer writes it again.
type pair struct {
	name    string
	written [][]byte
	read    func(b []byte, at int) ([]byte, int, api.Errno)
}

func uints(t *testing.T) pair {
	p := pair{name: "Uint"}
	for _, n := range wholeNumbers() {
		b, e := Uint(n)
		p.keep(t, b, e)
		if got, place, e := ReadUint(b, 0); got != n || place != len(b) || e != api.OK {
			t.Errorf("ReadUint of Uint(%d): %d %d %v", n, got, place, e)
		}
	}
	p.read = func(b []byte, at int) ([]byte, int, api.Errno) {
		n, place, e := ReadUint(b, at)
		return again(n, place, e, Uint)
	}
	return p
}

func floats(t *testing.T) pair {
	p := pair{name: "Float"}
	for _, a := range carriedNumbers() {
		b, e := Float(a)
		p.keep(t, b, e)
		if got, place, e := ReadFloat(b, 0); api.Bits(got) != api.Bits(a) || place != len(b) || e != api.OK {
			t.Errorf("ReadFloat of Float(%v): %v %d %v", a, got, place, e)
		}
	}
	p.read = func(b []byte, at int) ([]byte, int, api.Errno) {
		a, place, e := ReadFloat(b, at)
		return again(a, place, e, Float)
	}
	return p
}

func textPair(t *testing.T) pair {
	p := pair{name: "Text"}
	for _, s := range texts() {
		b, e := Text(s)
		p.keep(t, b, e)
		for _, most := range []int{len(s), len(s) + 1, math.MaxInt} {
			if got, place, e := ReadText(b, 0, most); got != s || place != len(b) || e != api.OK {
				t.Errorf("ReadText of Text(%x) with most %d: %x %d %v", s, most, got, place, e)
			}
		}
	}
	p.read = func(b []byte, at int) ([]byte, int, api.Errno) {
		s, place, e := ReadText(b, at, math.MaxInt)
		return again(s, place, e, Text)
	}
	return p
}

func frames(t *testing.T) pair {
	p := pair{name: "Frame"}
	for _, body := range bodies() {
		b, e := Frame(body)
		p.keep(t, b, e)
		if got, place, e := ReadFrame(b, 0); !bytes.Equal(got, body) || place != len(b) || e != api.OK {
			t.Errorf("ReadFrame of a Frame of %d bytes: %d bytes, %d %v", len(body), len(got), place, e)
		}
	}
	p.read = func(b []byte, at int) ([]byte, int, api.Errno) {
		body, place, e := ReadFrame(b, at)
		return again(body, place, e, Frame)
	}
	return p
}

func pairs(t *testing.T) []pair {
	t.Helper()
	return []pair{uints(t), floats(t), textPair(t), frames(t)}
}

func (p *pair) keep(t *testing.T, b []byte, e api.Errno) {
	t.Helper()
	if e != api.OK || len(b) == 0 {
		t.Fatalf("%s: %x %v", p.name, b, e)
	}
	p.written = append(p.written, b)
}

// again is what was read, written once more.
func again[T any](v T, place int, e api.Errno, write func(T) ([]byte, api.Errno)) ([]byte, int, api.Errno) {
	if e != api.OK {
		return nil, place, e
	}
	b, e := write(v)
	return b, place, e
}

// 1.7
func TestWrittenIsReadWhereverItStands(t *testing.T) {
	for _, p := range pairs(t) {
		for _, w := range p.written {
			for _, ahead := range [][]byte{nil, {0}, {0x80}, repeat(0xff, 13)} {
				for _, behind := range [][]byte{nil, {0}, {0x80}, {0xbf, 0x80}, repeat(0xff, 13)} {
					b := bytes.Join([][]byte{ahead, w, behind}, nil)
					got, place, e := p.read(b, len(ahead))
					if !bytes.Equal(got, w) || place != len(ahead)+len(w) || e != api.OK {
						t.Errorf("%s: %d bytes behind %x and ahead of %x: place %d, %v", p.name, len(w), ahead, behind, place, e)
					}
				}
			}
		}
	}
}

// rowsOfFour is every row of four of these bytes.
func rowsOfFour(of []byte) [][]byte {
	rows := [][]byte{nil}
	for range 4 {
		var longer [][]byte
		for _, r := range rows {
			for _, c := range of {
				longer = append(longer, append(bytes.Clone(r), c))
			}
		}
		rows = longer
	}
	return rows
}

// 1.7
func TestReadIsWrittenJustSo(t *testing.T) {
	rows := rowsOfFour([]byte{0, 1, 2, 3, 0x41, 0x7f, 0x80, 0xa9, 0xbf, 0xc3, 0xef, 0xf0, 0xff})
	for _, p := range pairs(t) {
		taken := 0
		look := func(b []byte) {
			got, place, e := p.read(b, 0)
			if e == api.OK && !bytes.Equal(got, b[:place]) {
				t.Fatalf("%s: read from %x up to %d, but written as %x", p.name, b, place, got)
			}
			if e == api.OK {
				taken++
			}
		}
		for _, r := range rows {
			look(append(bytes.Clone(r), repeat('a', 8)...))
			look(append(repeat(0x80, 4), r...))
			look(append(repeat('a', 4), r...))
			look(append(head(2), r...))
			look(append(append(head(1), r[0]), word(slowSum(r[:1]))...))
		}
		if taken == 0 {
			t.Errorf("%s: none of the rows was read", p.name)
		}
	}
}

// 1.8
func TestNoneBeginsAnother(t *testing.T) {
	for _, p := range pairs(t) {
		for i, a := range p.written {
			for j, b := range p.written {
				if i != j && bytes.HasPrefix(b, a) {
					t.Errorf("%s: the bytes of thing %d begin those of thing %d", p.name, i, j)
				}
			}
		}
	}
}

// 1.8
func TestEveryBeginningIsShort(t *testing.T) {
	for _, p := range pairs(t) {
		for _, w := range p.written {
			step := 1 + len(w)/500
			for n := 0; n < len(w); n += step {
				// The rest stands behind the end, where no Read may look.
				if _, place, e := p.read(w[:n], 0); place != 0 || e != api.ErrShort {
					t.Errorf("%s: the first %d of %d bytes: %d %v, want ErrShort", p.name, n, len(w), place, e)
				}
			}
			if _, _, e := p.read(w[:len(w)-1], 0); e != api.ErrShort {
				t.Errorf("%s: all but the last of %d bytes: %v, want ErrShort", p.name, len(w), e)
			}
		}
	}
}

// The chapter's head: ErrArg ahead of all else.
func TestPlacesOutside(t *testing.T) {
	for _, p := range pairs(t) {
		for _, b := range [][]byte{nil, {0x80, 0}, p.written[0]} {
			for _, at := range []int{math.MinInt, -1, len(b) + 1, math.MaxInt} {
				if got, place, e := p.read(b, at); len(got) != 0 || place != 0 || e != api.ErrArg {
					t.Errorf("Read of %s at %d of %d bytes: %d %v, want ErrArg", p.name, at, len(b), place, e)
				}
			}
		}
		if _, place, e := p.read(p.written[0], len(p.written[0])); place != 0 || e != api.ErrShort {
			t.Errorf("Read of %s at the end: %d %v, want ErrShort", p.name, place, e)
		}
	}
}

// Rule 4: beside an error all else is zero, wherever the Read began.
func TestNothingBesideAnError(t *testing.T) {
	bad := [][]byte{{}, {0x80}, {0x80, 0}, repeat(0xff, 12), {1, 0xff}, {2, 'a'}, repeat(0, 6, 0xf0, 0x7f), head(api.MaxFile + 1), head(5), append(head(0), 1, 0, 0, 0)}
	for _, tail := range bad {
		b := append([]byte{7, 7, 7}, tail...)
		if n, place, e := ReadUint(b, 3); e != api.OK && (n != 0 || place != 0) {
			t.Errorf("ReadUint(%x, 3): %d %d beside %v", b, n, place, e)
		}
		if a, place, e := ReadFloat(b, 3); e != api.OK && (api.Bits(a) != 0 || place != 0) {
			t.Errorf("ReadFloat(%x, 3): %v %d beside %v", b, a, place, e)
		}
		for _, most := range []int{-1, 0, 9} {
			if s, place, e := ReadText(b, 3, most); e != api.OK && (s != "" || place != 0) {
				t.Errorf("ReadText(%x, 3, %d): %q %d beside %v", b, most, s, place, e)
			}
		}
		if body, place, e := ReadFrame(b, 3); e == api.OK || len(body) != 0 || place != 0 {
			t.Errorf("ReadFrame(%x, 3): %x %d beside %v", b, body, place, e)
		}
	}
}

// Rule 3: what is handed in stays as it is, its spare room too, and answers are new memory.
func TestMemoryIsNotShared(t *testing.T) {
	room := append([]byte("abc"), repeat(0xee, 40)...)
	kept := bytes.Clone(room)
	f := mustFrame(t, room[:3])
	Sum(room[:3], room[3:5])
	if !bytes.Equal(room, kept) {
		t.Errorf("Frame or Sum wrote into what was handed in: %x", room)
	}
	fKept := bytes.Clone(f)
	body, _, _ := ReadFrame(f, 0)
	body = body[:cap(body)]
	for i := range body {
		body[i] = 0xdd
	}
	if !bytes.Equal(f, fKept) {
		t.Errorf("the body that was answered lies in the frame")
	}
	written, _ := Text("ab")
	s, _, _ := ReadText(written, 0, 9)
	written[1] = 'z'
	if s != "ab" {
		t.Errorf("the text that was answered lies in the bytes: %q", s)
	}
}
