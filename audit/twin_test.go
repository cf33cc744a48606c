package audit

import (
	"fmt"
	"hash/crc32"
	"math"
	"slices"
	"testing"

	"ambit/api"
	"ambit/cases"
	"ambit/code"
	"ambit/flow"
	"ambit/margin"
	"ambit/model"
	"ambit/oracle"
	"ambit/samples"
	"ambit/split"
)

// low is the whole number that lies in some bytes, the lowest first.
func low(b []byte) uint64 {
	u := uint64(0)
	for i := len(b) - 1; i >= 0; i-- {
		u = u<<8 + uint64(b[i])
	}
	return u
}

// wantWhole reads a whole number, and tells how many bytes it has.
func wantWhole(b []byte) (n uint64, size int, e api.Errno) {
	for i := range 9 {
		switch {
		case i == len(b):
			return 0, 0, api.ErrShort
		case i == 8 && b[i] > 127:
			return 0, 0, api.ErrWide
		case b[i] == 0 && i > 0:
			return 0, 0, api.ErrForm
		}
		n += uint64(b[i]%128) << (7 * i)
		if b[i] < 128 {
			return n, i + 1, api.OK
		}
	}
	panic("a ninth byte has no further one")
}

// wantParts reads an account by the words of 20.1, with a list of the regions whose trees are still to come.
func wantParts(b []byte, k int) ([]api.Region, api.Errno) {
	switch {
	case k < 0 || k > 256:
		return nil, api.ErrArg
	case len(b) > 1<<20:
		return nil, api.ErrLong
	case len(b) < 4 || string(b[:4]) != "AMBA":
		return nil, api.ErrMagic
	case len(b) < 5 || b[4] != 1:
		return nil, api.ErrVersion
	case len(b) < 21:
		return nil, api.ErrShort
	case math.Float64frombits(low(b[13:21]))-math.Float64frombits(low(b[13:21])) != 0:
		return nil, api.ErrFloat
	}
	at := 21
	var parts []api.Region
	for todo := []api.Region{samples.Cube(k)}; len(todo) > 0; {
		r := todo[len(todo)-1]
		todo = todo[:len(todo)-1]
		n, size, e := wantWhole(b[at:])
		at += size
		switch {
		case e != api.OK:
			return nil, e
		case n == 0 && len(parts) == 1024:
			return nil, api.ErrAccount
		case n == 0:
			parts = append(parts, r)
		case n > uint64(k) || r.Level[n-1] == 8:
			return nil, api.ErrAccount
		default:
			lower, upper := samples.Halves(r, int(n-1))
			todo = append(todo, upper, lower)
		}
	}
	switch {
	case len(b) < at+4:
		return nil, api.ErrShort
	case uint32(low(b[at:at+4])) != crc32.Checksum(b[:at], crc32.MakeTable(crc32.Castagnoli)):
		return nil, api.ErrSum
	case len(b) > at+4:
		return nil, api.ErrRest
	}
	return parts, api.OK
}

// wantCause is what is told of the bytes of a network and a question ahead of all else.
func wantCause(net, prop []byte) (api.Net, api.Prop, api.Errno) {
	n, e, _ := code.DecodeNet(net)
	if e != api.OK {
		return n, api.Prop{}, e
	}
	p, e, _ := code.DecodeProp(prop)
	if e != api.OK {
		return n, p, e
	}
	in, out := samples.Widths(n)
	e, _ = model.CheckProp(p, in, out)
	return n, p, e
}

// wantCheck holds an account against a network and a question by the words of 20.2.
func wantCheck(net, prop, account []byte) (float64, api.Errno) {
	n, p, e := wantCause(net, prop)
	if e != api.OK {
		return 0, e
	}
	parts, e := wantParts(account, len(p.G))
	if e != api.OK {
		return 0, e
	}
	if string(account[5:13]) != string(net[len(net)-4:])+string(prop[len(prop)-4:]) {
		return 0, api.ErrAccount
	}
	var all []float64
	for _, r := range parts {
		trace, _ := flow.Push(n, p, r, 1)
		z := trace.Z[len(trace.Z)-1]
		_, a, ok := margin.Worst(z, cases.Claims(n, p))
		if z.Bad || !ok || a <= 0 {
			return 0, api.ErrOpen
		}
		all = append(all, a)
	}
	if least := slices.Min(all); math.Float64bits(least) == low(account[13:21]) {
		return least, api.OK
	}
	return 0, api.ErrAccount
}

// wantAccount is an account by the words of 19.2 and 20.3: wave behind wave, with trials and budgets.
func wantAccount(net, prop []byte) ([]byte, api.Errno) {
	n, p, e := wantCause(net, prop)
	if e != api.OK {
		return nil, e
	}
	claims := cases.Claims(n, p)
	halved := map[string]int{}
	least := math.Inf(1)
	looked := 0
	for wave := []api.Region{samples.Cube(len(p.G))}; len(wave) > 0; {
		var unsettled []api.Region
		var symbols []int
		for _, r := range wave {
			looked++
			trace, _ := flow.Push(n, p, r, 1)
			z := trace.Z[len(trace.Z)-1]
			at, a, ok := margin.Worst(z, claims)
			if !z.Bad && ok && a > 0 {
				least = min(least, a)
				continue
			}
			_, _, fails := margin.Trial(n, p, r, margin.Signs(z, claims[at], len(p.G)))
			_, _, failsInTheMiddle := margin.Trial(n, p, r, make([]int, len(p.G)))
			if fails || failsInTheMiddle {
				return nil, api.ErrNone
			}
			unsettled, symbols = append(unsettled, r), append(symbols, split.Choose(z, claims[at], p, r))
		}
		wave = nil
		for i, r := range unsettled {
			way, _ := split.Way(r)
			if way >= p.Depth || symbols[i] < 0 || looked+len(wave)+2 > p.Looks {
				return nil, api.ErrNone
			}
			halved[fmt.Sprint(r)] = symbols[i]
			lower, upper := samples.Halves(r, symbols[i])
			wave = append(wave, lower, upper)
		}
	}
	return laid(net, prop, least, wantTree(halved, samples.Cube(len(p.G)))...), api.OK
}

// wantTree is the tree over a region of which these are halved.
func wantTree(halved map[string]int, r api.Region) []byte {
	s, is := halved[fmt.Sprint(r)]
	if !is {
		return []byte{0}
	}
	lower, upper := samples.Halves(r, s)
	return slices.Concat(tokens(s+1), wantTree(halved, lower), wantTree(halved, upper))
}

// mixedTree is a tree over a region; its symbols may be, and it has about so many parts at most.
func mixedTree(m *oracle.Mixer, r api.Region, parts int) []byte {
	if parts < 2 || len(r.Level) == 0 || m.Below(5) == 0 {
		return []byte{0}
	}
	s := m.Below(len(r.Level))
	if r.Level[s] == 8 {
		return []byte{0}
	}
	lower, upper := samples.Halves(r, s)
	share := 1 + m.Below(parts-1)
	return slices.Concat(tokens(s+1), mixedTree(m, lower, share), mixedTree(m, upper, parts-share))
}

// spoilt are bytes in which something or other is changed, often with the sum that they must have.
func spoilt(m *oracle.Mixer, b []byte) []byte {
	b = slices.Clone(b)
	at := m.Below(len(b))
	if m.Below(2) == 0 && len(b) > 25 {
		// In the tree, where every byte is its own.
		at = 21 + m.Below(len(b)-25)
	}
	switch m.Below(8) {
	case 0:
		b[at] ^= 1 << m.Below(8)
	case 1:
		b = b[:at]
	case 2:
		b = slices.Insert(b, at, byte(m.Below(4)))
	case 3:
		b = slices.Delete(b, at, at+1)
	case 4:
		b = slices.Insert(b, at, []byte{0x80, 0, 0xff, 0x81}[m.Below(4)])
	case 5:
		b[at] = byte(m.Word())
	case 6:
		return append(b, byte(m.Below(3)))
	}
	if len(b) > 4 && m.Below(4) > 0 {
		b = resealed(b)
	}
	return b
}

// 20.1: Parts tells what the chapter's words do.
func TestPartsByTheWords(t *testing.T) {
	t.Parallel()
	var m oracle.Mixer
	seen := oracle.Tally{}
	for range 12000 {
		k := []int{0, 1, 1, 2, 3, 130, 256}[m.Below(7)]
		tree := mixedTree(&m, samples.Cube(k), []int{1, 3, 20, 60}[m.Below(4)])
		b := laid([]byte("netw"), []byte("prop"), samples.MixedNumber(&m), tree...)
		if m.Below(3) > 0 {
			b = spoilt(&m, b)
		}
		if m.Below(20) == 0 {
			k = []int{-1, 0, 1, 2, 3, 257}[m.Below(6)]
		}
		want, e := wantParts(b, k)
		if e == api.OK {
			expectParts(t, b, k, want...)
		} else {
			expectNoParts(t, b, k, e)
		}
		if t.Failed() {
			return
		}
		seen.Note(fmt.Sprint(e), true)
		seen.Note("many", len(want) > 8)
		seen.Note("deep", slices.ContainsFunc(want, func(r api.Region) bool { return slices.Contains(r.Level, 8) }))
	}
	seen.Expect(t, 20, "many", "deep")
	for _, e := range []api.Errno{api.OK, api.ErrArg, api.ErrMagic, api.ErrVersion, api.ErrShort, api.ErrForm, api.ErrAccount, api.ErrSum, api.ErrRest} {
		seen.Expect(t, 20, fmt.Sprint(e))
	}
	seen.Expect(t, 1, fmt.Sprint(api.ErrFloat))
}

// 20.3: Account tells what the chapter's words do, of all kinds of layers.
func TestAccountsByTheWords(t *testing.T) {
	t.Parallel()
	var m oracle.Mixer
	seen := oracle.Tally{}
	for range 400 {
		n, p := cases.Mixed(&m)
		net, prop := encoded(t, n, p)
		want, e := wantAccount(net, prop)
		if e == api.OK {
			expectAccount(t, net, prop, want)
		} else {
			expectNoAccount(t, net, prop, e)
		}
		if t.Failed() {
			return
		}
		seen.Note(fmt.Sprint(e), true)
		seen.Note("halved", len(want) > 26)
		seen.Note("by several symbols", len(want) > 28 && slices.Contains(want[21:len(want)-4], 1) && slices.Contains(want[21:len(want)-4], 2))
		seen.Note("often", len(want) > 32)
	}
	seen.Expect(t, 20, fmt.Sprint(api.OK), fmt.Sprint(api.ErrNone), "halved")
	seen.Expect(t, 5, "by several symbols", "often")
}

// mixedAccount is an account of a network and a question that may hold: that of the verdict, if one is given, or one with another tree and its own margin; now and then spoilt.
func mixedAccount(m *oracle.Mixer, n api.Net, p api.Prop, net, prop, given []byte) []byte {
	b := given
	if len(given) == 0 || m.Below(2) == 0 {
		tree := mixedTree(m, samples.Cube(len(p.G)), 1+m.Below(12))
		b = laid(net, prop, 0.5, tree...)
		parts, _ := wantParts(b, len(p.G))
		least := math.Inf(1)
		for _, r := range parts {
			trace, _ := flow.Push(n, p, r, 1)
			_, a, _ := margin.Worst(trace.Z[len(n.Layers)], cases.Claims(n, p))
			least = min(least, a)
		}
		b = laid(net, prop, least, tree...)
	}
	if m.Below(4) == 0 {
		b = spoilt(m, b)
	}
	return b
}

// 20.2: Check tells what the chapter's words do.
func TestChecksByTheWords(t *testing.T) {
	t.Parallel()
	var m oracle.Mixer
	seen := oracle.Tally{}
	for range 500 {
		n, p := cases.Mixed(&m)
		p.Looks = min(p.Looks, 30)
		net, prop := encoded(t, n, p)
		given, _ := wantAccount(net, prop)
		b := mixedAccount(&m, n, p, net, prop, given)
		want, e := wantCheck(net, prop, b)
		if e == api.OK {
			expectCheck(t, net, prop, b, want)
		} else {
			expectNoCheck(t, net, prop, b, e)
		}
		if t.Failed() {
			return
		}
		seen.Note(fmt.Sprint(e), true)
		seen.Note("another tree", e == api.OK && !slices.Equal(b, given))
		seen.Note("robust by another tree alone", e == api.OK && len(given) == 0)
	}
	for _, e := range []api.Errno{api.OK, api.ErrAccount, api.ErrOpen, api.ErrSum, api.ErrShort} {
		seen.Expect(t, 3, fmt.Sprint(e))
	}
	seen.Expect(t, 10, "another tree")
	seen.Expect(t, 1, "robust by another tree alone")
}
