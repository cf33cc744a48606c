package audit

import (
	"math"
	"slices"
	"testing"

	"ambit/api"
	"ambit/oracle"
	"ambit/samples"
)

// noCounts are numbers of symbols that no question has.
func noCounts() []int {
	return []int{-1, -2, -256, 257, 258, 1 << 16, 1 << 32, 1<<32 + 1, -1 << 32, math.MaxInt, math.MinInt}
}

// 20.1: 0 to MaxSymbols symbols, and no others: ahead of all else.
func TestSymbolsOutOfBounds(t *testing.T) {
	for _, k := range noCounts() {
		for _, b := range [][]byte{nil, about(0), about(1, 0, 0), []byte("AMBA\x01"), make([]byte, api.MaxFile+1)} {
			expectNoParts(t, b, k, api.ErrArg)
		}
	}
	for _, k := range []int{0, 1, 2, 127, 128, 255, 256} {
		expectParts(t, about(0), k, samples.Cube(k))
	}
}

// 20.1: a symbol is one of the k; from 127 on two bytes tell it.
func TestSymbolsOfATree(t *testing.T) {
	for _, k := range []int{0, 1, 2, 126, 127, 128, 129, 255, 256} {
		for _, s := range []int{0, 1, k - 2, k - 1} {
			if s < 0 || s >= k {
				continue
			}
			lower, upper := samples.Cube(k), samples.Cube(k)
			lower.Level[s], upper.Level[s], upper.At[s] = 1, 1, 1
			expectParts(t, about(tokens(s+1, 0, 0)...), k, lower, upper)
		}
		for _, s := range []int{k, k + 1, 127, 128, 255, 256, 1 << 20, math.MaxInt - 1} {
			if s >= k {
				expectNoParts(t, about(tokens(s+1, 0, 0)...), k, api.ErrAccount)
				// It is told where it stands, whatever is behind it.
				b := about(tokens(s + 1)...)
				expectNoParts(t, b[:len(b)-4], k, api.ErrAccount)
			}
		}
	}
	if b := tokens(1, 127, 128, 256, 257); !slices.Equal(b, []byte{1, 0x7f, 0x80, 1, 0x80, 2, 0x81, 2}) {
		t.Errorf("%x", b)
	}
}

// 20.1: what can't be begins with other bytes, or is of another version.
func TestHeadings(t *testing.T) {
	whole := about(0)
	for i := range 4 {
		for bit := range 8 {
			b := slices.Clone(whole)
			b[i] ^= 1 << bit
			expectNoParts(t, b, 1, api.ErrMagic)
			expectNoParts(t, resealed(b), 1, api.ErrMagic)
		}
	}
	for version := range 256 {
		b := slices.Clone(whole)
		if b[4] = byte(version); version != 1 {
			expectNoParts(t, resealed(b), 1, api.ErrVersion)
			expectNoParts(t, b[:5], 1, api.ErrVersion)
		}
	}
	for _, b := range [][]byte{nil, {}, []byte("A"), []byte("AMB"), []byte("AMBN\x01"), []byte("AMBP\x01"), []byte("amba\x01")} {
		expectNoParts(t, b, 1, api.ErrMagic)
	}
	expectNoParts(t, []byte("AMBA"), 1, api.ErrVersion)
}

// 20.1: MaxFile bytes may be looked at, one more is told ahead of what they are.
func TestLongBytes(t *testing.T) {
	whole := about(0)
	for _, begin := range [][]byte{nil, whole, []byte("AMBA"), []byte("AMBA\x02"), about(9, 0, 0)} {
		long := append(slices.Clone(begin), make([]byte, api.MaxFile+1-len(begin))...)
		expectNoParts(t, long, 1, api.ErrLong)
		_, want := wantParts(long[:api.MaxFile], 1)
		if want == api.OK || want == api.ErrLong {
			t.Fatal(want)
		}
		expectNoParts(t, long[:api.MaxFile], 1, want)
	}
	expectNoParts(t, append(whole, make([]byte, api.MaxFile-len(whole))...), 1, api.ErrRest)
}

// 20.1: wherever the bytes end ahead of their end.
func TestEveryBeginning(t *testing.T) {
	trees := [][]byte{{0}, {1, 0, 0}, {1, 2, 0, 0, 1, 0, 0}, tokens(200, 3, 0, 0, 129, 0, 0)}
	for _, tree := range trees {
		whole := about(tree...)
		for n := range whole {
			want := api.ErrShort
			switch {
			case n < 4:
				want = api.ErrMagic
			case n == 4:
				want = api.ErrVersion
			}
			expectNoParts(t, whole[:n], 256, want)
			expectNoParts(t, whole[:n:n], 256, want)
		}
		if _, e := Parts(whole, 256); e != api.OK {
			t.Error(e)
		}
	}
}

// 20.1: a margin that is no number; every other one may be.
func TestMargins(t *testing.T) {
	for _, a := range oracle.NoNumbers() {
		expectNoParts(t, laid([]byte("netw"), []byte("prop"), a, 0), 1, api.ErrFloat)
		// It stands ahead of the tree, and of the sum.
		expectNoParts(t, laid([]byte("netw"), []byte("prop"), a, 9), 1, api.ErrFloat)
		expectNoParts(t, append(laid([]byte("netw"), []byte("prop"), a, 0), 7), 1, api.ErrFloat)
	}
	for _, a := range append(oracle.Edges(), oracle.MinusZero()) {
		expectParts(t, laid([]byte("netw"), []byte("prop"), a, 0), 1, region(0, 0))
	}
}

// 20.1: what wire refuses to read in a tree, wherever it stands there.
func TestNumbersOfATree(t *testing.T) {
	wide := []byte{0xff, 0xff, 0xff, 0xff, 0xff, 0xff, 0xff, 0xff, 0xff}
	great := []byte{0xff, 0xff, 0xff, 0xff, 0xff, 0xff, 0xff, 0xff, 0x7f}
	for _, ahead := range [][]byte{nil, {1}, {1, 0}, {1, 2, 0, 0}, {2, 2, 2}} {
		for _, c := range []struct {
			b    []byte
			want api.Errno
		}{
			{[]byte{0x80, 0, 0, 0}, api.ErrForm},
			{[]byte{0x81, 0x80, 0}, api.ErrForm},
			{append(slices.Clone(wide), 0, 0), api.ErrWide},
			{append([]byte{0x80, 0x80, 0x80, 0x80, 0x80, 0x80, 0x80, 0x80, 0x80}, 1), api.ErrWide},
			{append(slices.Clone(great), 0, 0), api.ErrAccount},
			{[]byte{3, 0, 0}, api.ErrAccount},
			{[]byte{0x83, 0, 0}, api.ErrForm},
			{[]byte{0x83, 1, 0, 0}, api.ErrAccount},
		} {
			expectNoParts(t, about(slices.Concat(ahead, c.b)...), 2, c.want)
		}
		whole := about(slices.Concat(ahead, wide)...)
		expectNoParts(t, whole[:21+len(ahead)+8], 2, api.ErrShort)
		expectNoParts(t, whole[:21+len(ahead)+9], 2, api.ErrWide)
	}
}

// 20.1: no symbol is halved more than MaxDepth times on the way to a part, by whichever halves it goes.
func TestDeepestHalvings(t *testing.T) {
	for way := range 1 << api.MaxDepth {
		// Bit for bit: the half that is halved once more is the upper one.
		tree := []int{0}
		for level := range api.MaxDepth {
			if way>>level&1 == 0 {
				tree = slices.Concat([]int{2}, tree, []int{0})
			} else {
				tree = slices.Concat([]int{2, 0}, tree)
			}
		}
		parts, e := Parts(about(tokens(tree...)...), 3)
		if e != api.OK || len(parts) != 9 {
			t.Fatalf("%v: %v %v", tree, parts, e)
		}
		at := slices.IndexFunc(parts, func(r api.Region) bool { return r.Level[1] == 8 && r.At[1]&1 == 0 })
		// One more, in either of the two least parts.
		for _, part := range []int{at, at + 1} {
			if parts[part].Level[1] != 8 {
				t.Fatalf("%v", parts)
			}
			expectNoParts(t, about(tokens(atPart(tree, part, 2)...)...), 3, api.ErrAccount)
			if more, e := Parts(about(tokens(atPart(tree, part, 1)...)...), 3); e != api.OK || len(more) != 10 {
				t.Errorf("%v: %v %v", tree, more, e)
			}
		}
	}
}

// atPart is a tree with one of its parts halved.
func atPart(tree []int, part, name int) []int {
	for i, n := range tree {
		if n == 0 {
			if part == 0 {
				return slices.Concat(tree[:i], []int{name, 0, 0}, tree[i+1:])
			}
			part--
		}
	}
	return tree
}

// 20.1: as many symbols as there are, each halved as often as may be, are no account: long ahead of that there are too many parts.
func TestTheLongestWay(t *testing.T) {
	var way []int
	for s := range 256 {
		for range 8 {
			way = append(way, s+1)
		}
	}
	b := about(tokens(way...)...)
	// Nothing stands behind the way but where the sum would be.
	expectNoParts(t, b[:len(b)-4], 256, api.ErrShort)
	for _, name := range []int{1, 100, 256} {
		expectNoParts(t, about(tokens(append(slices.Clone(way), name)...)...), 256, api.ErrAccount)
	}
	full := append(slices.Clone(way), make([]int, 1024)...)
	b = about(tokens(full...)...)
	expectNoParts(t, b[:len(b)-4], 256, api.ErrShort)
	expectNoParts(t, about(tokens(append(full, 0)...)...), 256, api.ErrAccount)
}

// comb is a tree of n parts over symbols that are halved one behind the other.
func comb(n int) []int {
	var tree []int
	for i := range n - 1 {
		tree = append(tree, i/8+1, 0)
	}
	return append(tree, 0)
}

// 20.1: MaxLooks parts, and no more.
func TestMostParts(t *testing.T) {
	for _, n := range []int{1, 2, 3, 512, 513, 1023, 1024} {
		if parts, e := Parts(about(tokens(comb(n)...)...), 256); e != api.OK || len(parts) != n {
			t.Errorf("%d: %d %v", n, len(parts), e)
		}
	}
	// The last one is told where it stands, whatever is behind it.
	for _, n := range []int{1025, 1026, 2000, 2049} {
		expectNoParts(t, about(tokens(comb(n)...)...), 256, api.ErrAccount)
	}
	tree := tokens(comb(1025)...)
	b := about(tree...)
	expectNoParts(t, b[:21+len(tree)], 256, api.ErrAccount)
	expectNoParts(t, b[:21+len(tree)-1], 256, api.ErrShort)
	// Nor may what stands there be halved on: its own first part is one too many.
	on := tokens(append(comb(1025)[:2048], 256, 255, 0, 0, 0)...)
	expectNoParts(t, about(on...), 256, api.ErrAccount)
	expectNoParts(t, about(on...)[:21+len(tree)-1+4], 256, api.ErrShort)
	expectNoParts(t, about(on...)[:21+len(tree)-1+5], 256, api.ErrAccount)
	expectNoParts(t, about(append(tree[:len(tree)-1], 0x80, 0)...), 256, api.ErrForm)
	// A tree that is as broad as deep.
	expectNoParts(t, about(even(1, 3, 11)...), 3, api.ErrAccount)
	if parts, e := Parts(about(even(1, 3, 10)...), 3); e != api.OK || len(parts) != 1024 {
		t.Errorf("%d %v", len(parts), e)
	}
}

// even is a tree that is halved by one symbol behind the other, everywhere as often.
func even(first, symbols, times int) []byte {
	if times == 0 {
		return []byte{0}
	}
	half := even(first%symbols+1, symbols, times-1)
	return slices.Concat([]byte{byte(first)}, half, half)
}

// 20.1: the last sum is held against all that is ahead; nothing may be behind it.
func TestLastSums(t *testing.T) {
	for _, tree := range [][]byte{{0}, {1, 0, 0}, {1, 2, 0, 0, 0}} {
		whole := about(tree...)
		for i := range 8 * len(whole) {
			b := slices.Clone(whole)
			b[i/8] ^= 1 << (i % 8)
			if _, e := Parts(b, 2); e == api.OK {
				t.Errorf("%x is taken", b)
			}
			if i >= 8*(len(b)-4) || i >= 40 && i < 8*13 {
				expectNoParts(t, b, 2, api.ErrSum)
				expectNoParts(t, append(b, 0), 2, api.ErrSum)
			}
		}
		for _, behind := range [][]byte{{0}, {1}, whole, whole[len(whole)-4:], make([]byte, 1000)} {
			expectNoParts(t, slices.Concat(whole, behind), 2, api.ErrRest)
		}
	}
}

// 20.1: the parts come from the left, the lower half ahead of the upper one.
func TestPartsFromTheLeft(t *testing.T) {
	expectParts(t, about(0), 0, region())
	expectParts(t, about(2, 0, 0), 2, region(0, 0, 1, 0), region(0, 0, 1, 1))
	expectParts(t, about(1, 2, 0, 0, 1, 0, 0), 2,
		region(1, 0, 1, 0), region(1, 0, 1, 1), region(2, 2, 0, 0), region(2, 3, 0, 0))
	expectParts(t, about(1, 0, 2, 0, 1, 0, 2, 0, 0), 2,
		region(1, 0, 0, 0), region(1, 1, 1, 0), region(2, 2, 1, 1), region(2, 3, 2, 2), region(2, 3, 2, 3))
	expectParts(t, about(1, 1, 1, 0, 0, 0, 0), 1, region(3, 0), region(3, 1), region(2, 1), region(1, 1))
	// Two ways to the same four quarters.
	expectParts(t, about(1, 2, 0, 0, 2, 0, 0), 2, region(1, 0, 1, 0), region(1, 0, 1, 1), region(1, 1, 1, 0), region(1, 1, 1, 1))
	expectParts(t, about(2, 1, 0, 0, 1, 0, 0), 2, region(1, 0, 1, 0), region(1, 1, 1, 0), region(1, 0, 1, 1), region(1, 1, 1, 1))
	var all []api.Region
	for at := range 256 {
		all = append(all, region(8, at))
	}
	expectParts(t, about(even(1, 1, 8)...), 1, all...)
}

// 20.1, rule 5: of several things that can't be, the one that stands first.
func TestFirstFromTheLeft(t *testing.T) {
	b := about(3, 0x80, 0, 0)
	expectNoParts(t, b, 3, api.ErrForm)
	expectNoParts(t, b, 2, api.ErrAccount)
	expectNoParts(t, about(1, 9, 0x80, 0), 2, api.ErrAccount)
	expectNoParts(t, about(1, 0x80, 0, 9), 2, api.ErrForm)
	expectNoParts(t, append(about(9, 0, 0), 1), 2, api.ErrAccount)
	b = about(9, 0, 0)
	b[len(b)-1] ^= 1
	expectNoParts(t, b, 2, api.ErrAccount)
	b[4] = 2
	expectNoParts(t, b, 2, api.ErrVersion)
	b[3]++
	expectNoParts(t, b, 2, api.ErrMagic)
}
