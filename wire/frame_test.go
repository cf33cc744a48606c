package wire

import (
	"bytes"
	"testing"

	"ambit/api"
)

// slowSum is the sum bit by bit, by the chapter's own words.
func slowSum(b []byte) uint32 {
	r := uint32(0xffffffff)
	for _, c := range b {
		r ^= uint32(c)
		for range 8 {
			set := r&1 != 0
			r >>= 1
			if set {
				r ^= 0x82f63b78
			}
		}
	}
	return r ^ 0xffffffff
}

// mixed is a row of n bytes that looks like chance and is always the same.
func mixed(n int) []byte {
	b := make([]byte, n)
	u := uint64(n) + 1
	for i := range b {
		u = u*6364136223846793005 + 1442695040888963407
		b[i] = byte(u >> 56)
	}
	return b
}

func word(u uint32) []byte { return []byte{byte(u), byte(u >> 8), byte(u >> 16), byte(u >> 24)} }

// head is a frame's first eight bytes, whatever its length.
func head(length uint32) []byte { return append(word(length), word(slowSum(word(length)))...) }

func bodies() [][]byte {
	return [][]byte{nil, {0}, {1}, {0, 0}, []byte("abc"), []byte("123456789"), repeat(0xff, 12), mixed(40), mixed(255), mixed(256), mixed(70000)}
}

func flip(b []byte, bit int) { b[bit/8] ^= 1 << (bit % 8) }

func wantErrSum(t *testing.T, b []byte, what ...int) {
	t.Helper()
	if body, place, e := ReadFrame(b, 0); len(body) != 0 || place != 0 || e != api.ErrSum {
		t.Fatalf("ReadFrame of a frame of %d bytes with the bits %v turned over: %d %v, want ErrSum", len(b), what, place, e)
	}
}

func mustFrame(t *testing.T, body []byte) []byte {
	t.Helper()
	f, e := Frame(body)
	if e != api.OK {
		t.Fatalf("Frame of %d bytes: %v", len(body), e)
	}
	return f
}

// 1.5
func TestSum(t *testing.T) {
	if s := Sum([]byte("123456789")); s != 0xe3069283 {
		t.Errorf("Sum of 123456789: %x", s)
	}
	for _, parts := range [][][]byte{nil, {nil}, {nil, {}, nil}} {
		if s := Sum(parts...); s != 0 {
			t.Errorf("Sum of nothing: %x", s)
		}
	}
	for c := range 256 {
		b := []byte{byte(c)}
		if Sum(b) != slowSum(b) {
			t.Errorf("Sum(%x): %x, want %x", b, Sum(b), slowSum(b))
		}
	}
	for _, b := range bodies() {
		if Sum(b) != slowSum(b) {
			t.Errorf("Sum of %d bytes: %x, want %x", len(b), Sum(b), slowSum(b))
		}
	}
}

// 1.9
func TestSumOfPartsIsSumOfThemJoined(t *testing.T) {
	b := mixed(24)
	want := slowSum(b)
	for i := range len(b) + 1 {
		for j := i; j <= len(b); j++ {
			if s := Sum(b[:i], b[i:j], nil, b[j:]); s != want {
				t.Errorf("Sum parted at %d and %d: %x, want %x", i, j, s, want)
			}
		}
	}
}

// 1.6
func TestFrame(t *testing.T) {
	if f := mustFrame(t, nil); !bytes.Equal(f, []byte{0, 0, 0, 0, 0xc7, 0x4b, 0x67, 0x48, 0, 0, 0, 0}) {
		t.Errorf("Frame(nothing): %x", f)
	}
	for _, body := range append(bodies(), make([]byte, api.MaxFile)) {
		want := bytes.Join([][]byte{head(uint32(len(body))), body, word(slowSum(body))}, nil)
		if f := mustFrame(t, body); !bytes.Equal(f, want) {
			t.Errorf("Frame of %d bytes is another row", len(body))
		}
	}
	if f, e := Frame(make([]byte, api.MaxFile+1)); len(f) != 0 || e != api.ErrLong {
		t.Errorf("Frame of MaxFile + 1 bytes: %d bytes, %v", len(f), e)
	}
}

// 1.6
func TestReadFrameErrors(t *testing.T) {
	none := mustFrame(t, nil)
	abc := mustFrame(t, []byte("abc"))
	tooLong := head(api.MaxFile + 1)
	wrongBig := append(word(api.MaxFile+1), 0, 0, 0, 0)
	for _, c := range []struct {
		what string
		b    []byte
		at   int
		e    api.Errno
	}{
		{"no bytes", nil, 0, api.ErrShort},
		{"seven bytes", none[:7], 0, api.ErrShort},
		{"seven bytes of a wrong sum", repeat(0xff, 7), 0, api.ErrShort},
		{"behind its first byte's end", none, 5, api.ErrShort},
		{"all but its last byte", none[:11], 0, api.ErrShort},
		{"all but the body's sum", abc[:11], 0, api.ErrShort},
		{"a part of the body", abc[:9], 0, api.ErrShort},
		{"another length, the sum of 0", []byte{1, 0, 0, 0, 0xc7, 0x4b, 0x67, 0x48}, 0, api.ErrSum},
		{"a length too great and a wrong sum", wrongBig, 0, api.ErrSum},
		{"a length too great and no body", tooLong, 0, api.ErrBig},
		{"a length too great and a whole body", append(bytes.Clone(tooLong), make([]byte, api.MaxFile+5)...), 0, api.ErrBig},
		{"the greatest length", head(1<<32 - 1), 0, api.ErrBig},
		{"MaxFile bytes and no body", head(api.MaxFile), 0, api.ErrShort},
		{"a body with another sum", append(head(3), "abc\x00\x00\x00\x00"...), 0, api.ErrSum},
	} {
		if body, place, e := ReadFrame(c.b, c.at); len(body) != 0 || place != 0 || e != c.e {
			t.Errorf("ReadFrame, %s: %x %d %v, want %v", c.what, body, place, e, c.e)
		}
	}
}

// 1.9
func TestOneToThreeBitsTurned(t *testing.T) {
	for _, body := range [][]byte{nil, []byte("ab")} {
		for _, behind := range [][]byte{nil, repeat(0xff, 9)} {
			f := mustFrame(t, body)
			bits := len(f) * 8
			b := append(f, behind...)
			for i := range bits {
				flip(b, i)
				wantErrSum(t, b, i)
				for j := range i {
					flip(b, j)
					wantErrSum(t, b, i, j)
					for k := range j {
						flip(b, k)
						wantErrSum(t, b, i, j, k)
						flip(b, k)
					}
					flip(b, j)
				}
				flip(b, i)
			}
		}
	}
}

// 1.9
func TestOneToThreeBitsTurnedInGreatFrames(t *testing.T) {
	for _, size := range []int{1000, api.MaxFile} {
		f := mustFrame(t, mixed(size))
		bits := len(f) * 8
		for n := range 40 {
			places := []int{n * 977 % bits, bits - 1 - n*7919%bits, bits / 41 * n}
			if places[0] == places[1] || places[1] == places[2] || places[0] == places[2] {
				continue
			}
			b := bytes.Clone(f)
			for i, p := range places {
				flip(b, p)
				wantErrSum(t, b, places[:i+1]...)
			}
		}
	}
}

// bursts turns over bits within 32 that follow one another, from every place of b on: the first and the last ones, and patterns between.
func bursts(t *testing.T, whole []byte, from, to int) {
	t.Helper()
	patterns := []uint32{1, 3, 5, 0x80000001, 0xffffffff, 0x80000003, 0xaaaaaaab, 0x82f63b79, 0xedb88321, 0x05ec76f1, 0x0000ffff, 0x12345679}
	for first := from; first < to; first++ {
		for _, p := range patterns {
			turned := 0
			for i := 0; i < 32 && first+i < to; i++ {
				if p>>i&1 == 1 {
					flip(whole, first+i)
					turned++
				}
			}
			if turned == 0 {
				t.Fatal("a pattern that turns nothing over")
			}
			wantErrSum(t, whole, first, int(p))
			for i := 0; i < 32 && first+i < to; i++ {
				if p>>i&1 == 1 {
					flip(whole, first+i)
				}
			}
		}
	}
}

// 1.9
func TestBitsWithin32Turned(t *testing.T) {
	for _, body := range [][]byte{nil, []byte("a"), []byte("123456789"), mixed(60)} {
		f := mustFrame(t, body)
		bits := len(f) * 8
		b := append(f, 1, 2, 3, 4, 5)
		bursts(t, b, 0, headBytes*8)
		bursts(t, b, headBytes*8, bits)
		if got, place, e := ReadFrame(b, 0); !bytes.Equal(got, body) || place != bits/8 || e != api.OK {
			t.Errorf("the frame is no longer itself: %x %d %v", got, place, e)
		}
	}
}
