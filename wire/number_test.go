package wire

import (
	"bytes"
	"math"
	"testing"

	"ambit/api"
)

// wholeNumbers are both sides of every edge between two lengths, and some between.
func wholeNumbers() []int {
	l := []int{0, 1, 2, 42, 300, 1000003, math.MaxInt - 1, math.MaxInt}
	for k := 7; k < 63; k += 7 {
		l = append(l, 1<<k-1, 1<<k, 1<<k+1)
	}
	return l
}

// carriedNumbers are numbers of every kind: noughts, the least, the greatest, both signs.
func carriedNumbers() []float64 {
	var l []float64
	for _, a := range []float64{0, 1, 0.1, 1.5, math.Pi, 1e-300, math.SmallestNonzeroFloat64, api.Float(1<<52 - 1), api.Float(1 << 52), math.MaxFloat64} {
		l = append(l, a, math.Copysign(a, -1))
	}
	return l
}

func noNumbers() []float64 {
	return []float64{math.Inf(1), math.Inf(-1), math.NaN(), api.Float(0x7ff0000000000001), api.Float(0x7ff8000000000000), api.Float(0xfff0000000000001), api.Float(math.MaxUint64)}
}

func repeat(c byte, n int, behind ...byte) []byte {
	return append(bytes.Repeat([]byte{c}, n), behind...)
}

// 1.1
func TestUintWritesGroups(t *testing.T) {
	for _, c := range []struct {
		n    int
		want []byte
		e    api.Errno
	}{
		{0, []byte{0}, api.OK},
		{1, []byte{1}, api.OK},
		{127, []byte{0x7f}, api.OK},
		{128, []byte{0x80, 1}, api.OK},
		{300, []byte{0xac, 2}, api.OK},
		{1<<14 - 1, []byte{0xff, 0x7f}, api.OK},
		{1 << 14, []byte{0x80, 0x80, 1}, api.OK},
		{1 << 56, repeat(0x80, 8, 1), api.OK},
		{math.MaxInt, repeat(0xff, 8, 0x7f), api.OK},
		{-1, nil, api.ErrArg},
		{-128, nil, api.ErrArg},
		{math.MinInt, nil, api.ErrArg},
	} {
		got, e := Uint(c.n)
		if !bytes.Equal(got, c.want) || e != c.e {
			t.Errorf("Uint(%d): %x %v, want %x %v", c.n, got, e, c.want, c.e)
		}
	}
}

// 1.1
func TestUintTakesNoMoreBytesThanNeeded(t *testing.T) {
	for _, n := range wholeNumbers() {
		want := 1
		for v := n >> 7; v > 0; v >>= 7 {
			want++
		}
		if b, e := Uint(n); len(b) != want || e != api.OK {
			t.Errorf("Uint(%d): %x %v, want %d bytes", n, b, e, want)
		}
	}
}

// 1.1
func TestReadUint(t *testing.T) {
	for _, c := range []struct {
		b        []byte
		at       int
		n, place int
		e        api.Errno
	}{
		{[]byte{0}, 0, 0, 1, api.OK},
		{[]byte{0x80, 1}, 0, 128, 2, api.OK},
		{[]byte{5, 0xac, 2, 0xff}, 1, 300, 3, api.OK},
		{[]byte{5, 0xac, 2, 0xff}, 0, 5, 1, api.OK},
		{[]byte{0x80, 0x80, 1}, 0, 1 << 14, 3, api.OK},
		{repeat(0xff, 8, 0x7f), 0, math.MaxInt, 9, api.OK},
		{repeat(0x80, 8, 1, 0xff), 0, 1 << 56, 9, api.OK},
		{nil, 0, 0, 0, api.ErrShort},
		{[]byte{0x80}, 0, 0, 0, api.ErrShort},
		{[]byte{0xac, 2}, 2, 0, 0, api.ErrShort},
		{repeat(0xff, 8), 0, 0, 0, api.ErrShort},
		{[]byte{0x80, 0}, 0, 0, 0, api.ErrForm},
		{[]byte{0xff, 0xff, 0}, 0, 0, 0, api.ErrForm},
		{repeat(0x80, 8, 0), 0, 0, 0, api.ErrForm},
		{repeat(0xff, 8, 0x80), 0, 0, 0, api.ErrWide},
		{repeat(0x80, 9, 0), 0, 0, 0, api.ErrWide},
		{repeat(0xff, 20), 3, 0, 0, api.ErrWide},
	} {
		n, place, e := ReadUint(c.b, c.at)
		if n != c.n || place != c.place || e != c.e {
			t.Errorf("ReadUint(%x, %d): %d %d %v, want %d %d %v", c.b, c.at, n, place, e, c.n, c.place, c.e)
		}
	}
}

// 1.2
func TestFloatWritesBits(t *testing.T) {
	for _, c := range []struct {
		a    float64
		want []byte
	}{
		{1, []byte{0, 0, 0, 0, 0, 0, 0xf0, 0x3f}},
		{0, repeat(0, 8)},
		{math.Copysign(0, -1), repeat(0, 7, 0x80)},
		{api.Float(0x0102030405060708), []byte{8, 7, 6, 5, 4, 3, 2, 1}},
		{math.SmallestNonzeroFloat64, append([]byte{1}, repeat(0, 7)...)},
		{math.MaxFloat64, repeat(0xff, 6, 0xef, 0x7f)},
		{-math.MaxFloat64, repeat(0xff, 6, 0xef, 0xff)},
	} {
		if got, e := Float(c.a); !bytes.Equal(got, c.want) || e != api.OK {
			t.Errorf("Float(%v): %x %v, want %x", c.a, got, e, c.want)
		}
	}
	for _, a := range noNumbers() {
		if got, e := Float(a); len(got) != 0 || e != api.ErrFloat {
			t.Errorf("Float of the bits %x: %x %v, want ErrFloat", api.Bits(a), got, e)
		}
	}
}

// 1.2
func TestReadFloat(t *testing.T) {
	for _, c := range []struct {
		b     []byte
		at    int
		bits  uint64
		place int
		e     api.Errno
	}{
		{[]byte{0, 0, 0, 0, 0, 0, 0xf0, 0x3f}, 0, api.Bits(1), 8, api.OK},
		{append([]byte{0xff}, repeat(0, 7, 0x80, 0x33)...), 1, 1 << 63, 9, api.OK},
		{repeat(0xff, 6, 0xef, 0x7f), 0, api.Bits(math.MaxFloat64), 8, api.OK},
		{nil, 0, 0, 0, api.ErrShort},
		{repeat(0, 7), 0, 0, 0, api.ErrShort},
		{repeat(0xff, 7), 0, 0, 0, api.ErrShort},
		{repeat(0, 8), 1, 0, 0, api.ErrShort},
		{repeat(0, 8), 8, 0, 0, api.ErrShort},
		{repeat(0, 6, 0xf0, 0x7f), 0, 0, 0, api.ErrFloat},
		{repeat(0, 6, 0xf0, 0xff), 0, 0, 0, api.ErrFloat},
	} {
		a, place, e := ReadFloat(c.b, c.at)
		if api.Bits(a) != c.bits || place != c.place || e != c.e {
			t.Errorf("ReadFloat(%x, %d): %v %d %v, want the bits %x, %d %v", c.b, c.at, a, place, e, c.bits, c.place, c.e)
		}
	}
	for _, none := range noNumbers() {
		b := appendLow(nil, api.Bits(none), 8)
		if a, place, e := ReadFloat(b, 0); api.Bits(a) != 0 || place != 0 || e != api.ErrFloat {
			t.Errorf("ReadFloat(%x): %v %d %v, want ErrFloat", b, a, place, e)
		}
	}
}
