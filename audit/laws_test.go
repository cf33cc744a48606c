package audit

import (
	"bytes"
	"math/big"
	"slices"
	"testing"

	"ambit/api"
	"ambit/cases"
	"ambit/oracle"
	"ambit/samples"
	"ambit/verify"
)

// expectHolds holds each claim's exact sum to being at least the margin, at points of the cube.
func expectHolds(t *testing.T, m *oracle.Mixer, n api.Net, p api.Prop, least float64, points int) {
	t.Helper()
	if least <= 0 {
		t.Errorf("%s, %s: %v", text(n), text(p), least)
	}
	for range points {
		e := cases.Shares(m, len(p.G))
		for i, sum := range cases.SumsAt(n, p, e) {
			if sum.Cmp(oracle.Exact(least)) < 0 {
				t.Errorf("%s, %s: the claim %d is %v at %v, below %v", text(n), text(p), i, sum, e, least)
			}
		}
	}
}

// 20.4, W8: whatever bytes Check takes, every claim's sum is at least what it tells at points of the cube.
func TestWhatIsTakenIsSo(t *testing.T) {
	t.Parallel()
	var m oracle.Mixer
	seen := oracle.Tally{}
	for range 400 {
		n, p := cases.Mixed(&m)
		p.Looks = min(p.Looks, 30)
		net, prop := encoded(t, n, p)
		given, _ := wantAccount(net, prop)
		for range 2 {
			b := mixedAccount(&m, n, p, net, prop, given)
			least, e := Check(net, prop, b)
			if e != api.OK {
				continue
			}
			expectHolds(t, &m, n, p, least, 3)
			seen.Note("taken", true)
			seen.Note("another tree", !bytes.Equal(b, given))
			seen.Note("rises", slices.ContainsFunc(n.Layers, samples.Rises))
		}
		if t.Failed() {
			return
		}
	}
	seen.Expect(t, 20, "taken", "another tree")
	seen.Expect(t, 5, "rises")
}

// lies are accounts that say more than is so: of a margin, or of a tree, in each bit and byte.
func lies(b []byte) [][]byte {
	var all [][]byte
	for i := 13 * 8; i < 8*(len(b)-4); i++ {
		other := slices.Clone(b)
		other[i/8] ^= 1 << (i % 8)
		all = append(all, resealed(other))
	}
	for at := 21; at <= len(b)-4; at++ {
		for _, n := range []byte{0, 1, 2} {
			all = append(all, resealed(slices.Insert(slices.Clone(b), at, n)))
		}
		if at < len(b)-4 {
			all = append(all, resealed(slices.Delete(slices.Clone(b), at, at+1)))
		}
	}
	return all
}

// 20.4, W8: of a claim that fails somewhere no account is taken, whatever it says; of one that holds none is taken that says more than is so.
func TestLiesAreNotTaken(t *testing.T) {
	t.Parallel()
	taken := 0
	for _, height := range []int{1, 4, 12, 16, 19, 20, 21, 28, 39} {
		n, p := cases.Bumps(float64(height)/16, numbers(-0.25, 0.5)), cases.Unit(numbers(-1, 1.25))
		net, prop := encoded(t, n, p)
		// A trial at every cut: the bumps' heights are among the sums.
		most := oracle.Exact(1.25 - float64(height)/16)
		for _, tree := range [][]byte{{0}, {1, 0, 0}, even(1, 1, 2), even(1, 1, 3), {1, 1, 0, 1, 0, 0, 0}} {
			for _, b := range append(lies(laid(net, prop, 0.25, tree...)), laid(net, prop, 1.25-float64(height)/16, tree...)) {
				least, e := Check(net, prop, b)
				if e == api.OK && (least <= 0 || oracle.Exact(least).Cmp(most) > 0) {
					t.Fatalf("%d: %x is taken: %v", height, b, least)
				}
				if e == api.OK {
					taken++
				}
			}
		}
	}
	if taken < 8 {
		t.Errorf("%d were taken only", taken)
	}
}

// 20.5, W8: what Account gives, Check takes, and tells the verdict's margin.
func TestWhatIsGivenIsTaken(t *testing.T) {
	t.Parallel()
	var m oracle.Mixer
	seen := oracle.Tally{}
	for range 400 {
		n, p := cases.Mixed(&m)
		net, prop := encoded(t, n, p)
		v := verify.Verify(net, prop)
		account, e := Account(net, prop)
		if (e == api.OK) != (v.Kind == api.Robust) || e != api.OK && e != api.ErrNone {
			t.Fatalf("%s, %s: %v, but %+v", text(n), text(p), e, v)
		}
		seen.Note("none", e != api.OK)
		if e != api.OK {
			continue
		}
		expectCheck(t, net, prop, account, v.Margin)
		parts, _ := Parts(account, len(p.G))
		if 2*len(parts)-1 != v.Looked {
			t.Fatalf("%s, %s: %d parts, but %+v", text(n), text(p), len(parts), v)
		}
		if t.Failed() {
			return
		}
		seen.Note("at once", len(parts) == 1)
		seen.Note("by halves", len(parts) > 1)
		seen.Note("by many", len(parts) > 4)
	}
	seen.Expect(t, 10, "none", "at once", "by halves")
	seen.Expect(t, 3, "by many")
}

// A node is a region's place in a tree: the symbol at which it is halved, from 1 on, and its halves; 0, if it is not halved.
type node struct {
	name         int
	lower, upper *node
}

// grown is the tree with which some bytes begin, and what is behind it.
func grown(tree []byte) (*node, []byte) {
	n, size, _ := wantWhole(tree)
	tree = tree[size:]
	if n == 0 {
		return &node{}, tree
	}
	lower, tree := grown(tree)
	upper, tree := grown(tree)
	return &node{int(n), lower, upper}, tree
}

// flat is a tree's bytes.
func (n *node) flat() []byte {
	if n.name == 0 {
		return []byte{0}
	}
	return slices.Concat(tokens(n.name), n.lower.flat(), n.upper.flat())
}

// 20.6: whatever Parts takes is the one account of its tree, its margin and its sums: laid anew it is the same bytes.
func TestOneAccountForOneTree(t *testing.T) {
	t.Parallel()
	var m oracle.Mixer
	taken, trees := 0, map[string]string{}
	for range 15000 {
		k := []int{1, 2, 3, 200}[m.Below(4)]
		b := laid([]byte("netw"), []byte("prop"), 0.5, mixedTree(&m, samples.Cube(k), 1+m.Below(6))...)
		if m.Below(4) > 0 {
			b = spoilt(&m, b)
		}
		parts, e := Parts(b, k)
		if e != api.OK {
			continue
		}
		taken++
		tree, rest := grown(b[21:])
		if len(rest) != 4 || !bytes.Equal(sealed(slices.Concat(b[:21], tree.flat())...), b) {
			t.Fatalf("%x is not the one account of its tree", b)
		}
		// Unlike bytes, unlike trees: of one symbol the parts tell the tree.
		if key := text(parts); k == 1 {
			if other, twice := trees[key]; twice && other != string(b[21:len(b)-4]) {
				t.Fatalf("%x and %x have the same parts", other, b)
			}
			trees[key] = string(b[21 : len(b)-4])
		}
	}
	if taken < 3000 || len(trees) < 20 {
		t.Errorf("%d taken, %d trees", taken, len(trees))
	}
}

// 20.6: the same network and question have the same account, whenever it is asked for.
func TestOneAccountForOneQuestion(t *testing.T) {
	net, prop := encoded(t, cases.Kinks(-0.5, 0.5, 0.25), cases.Unit(numbers(1, 0.125)))
	first, e := Account(net, prop)
	if e != api.OK {
		t.Fatal(e)
	}
	for range 20 {
		expectAccount(t, net, prop, first)
	}
}

// ends are where a region begins and ends along a symbol.
func ends(r api.Region, s int) (from, to *big.Rat) {
	m, h := samples.Middles(r)
	return new(big.Rat).Sub(m[s], h[s]), new(big.Rat).Add(m[s], h[s])
}

// apart tells whether two regions have no more in common than an edge.
func apart(a, b api.Region) bool {
	for s := range a.Level {
		aFrom, aTo := ends(a, s)
		bFrom, bTo := ends(b, s)
		if aTo.Cmp(bFrom) <= 0 || bTo.Cmp(aFrom) <= 0 {
			return true
		}
	}
	return false
}

// holds tells whether a point of the cube lies in a region.
func holds(r api.Region, e []*big.Rat) bool {
	for s, v := range e {
		if from, to := ends(r, s); v.Cmp(from) < 0 || v.Cmp(to) > 0 {
			return false
		}
	}
	return true
}

// 20.7: every point of the cube lies in a part; two parts have no more in common than an edge.
func TestPartsCover(t *testing.T) {
	t.Parallel()
	var m oracle.Mixer
	seen := oracle.Tally{}
	for range 800 {
		k := m.Below(5)
		b := about(mixedTree(&m, samples.Cube(k), 1+m.Below(20))...)
		parts, e := Parts(b, k)
		if e != api.OK {
			t.Fatalf("%x: %v", b, e)
		}
		// The parts' shares of the cube make up the whole of it, and no two have a share in common: so nothing is left over.
		share := new(big.Rat)
		for i, r := range parts {
			way := 0
			for _, level := range r.Level {
				way += level
			}
			share.Add(share, oracle.Power(-way))
			for _, other := range parts[:i] {
				if !apart(r, other) {
					t.Fatalf("%x: %v and %v overlap", b, r, other)
				}
			}
		}
		if share.Cmp(big.NewRat(1, 1)) != 0 {
			t.Fatalf("%x: %v of the cube", b, share)
		}
		for range 4 {
			point := cases.Shares(&m, k)
			if m.Below(2) == 0 && k > 0 {
				point[m.Below(k)] = big.NewRat(int64(m.Below(33)-16), 16)
			}
			in := 0
			for _, r := range parts {
				if holds(r, point) {
					in++
				}
			}
			if in == 0 {
				t.Fatalf("%x: %v lies in none of %v", b, point, parts)
			}
			seen.Note("in one", in == 1)
			seen.Note("on an edge", in > 1)
		}
		seen.Note("many", len(parts) > 8)
	}
	seen.Expect(t, 50, "in one", "on an edge", "many")
}
