package audit

import (
	"slices"
	"sync"
	"testing"

	"ambit/api"
	"ambit/cases"
	"ambit/samples"
)

// memoryCases are the bytes of networks and questions: some that are robust, by one part and by several, some that are not, and some that are refused.
func memoryCases(t *testing.T) [][2][]byte {
	var all [][2][]byte
	add := func(n api.Net, p api.Prop) {
		net, prop := encoded(t, n, p)
		all = append(all, [2][]byte{net, prop})
	}
	for _, further := range []bool{false, true} {
		n, p := cases.Example(further)
		add(n, p)
	}
	for _, n := range samples.Nets() {
		add(n, cases.Within(samples.QuestionTo(n, 2), 2, 5))
	}
	add(cases.Kinks(-0.5, 0.5), cases.Unit(numbers(1, 0.125)))
	add(cases.Kinks(0.25), cases.Asked(lists(numbers(1, 0.25)), numbers(0), numbers(0.25), numbers(0.75)))
	add(netOf(1), cases.Asked(lists(numbers(1, 0)), numbers(2)))
	net, prop := all[0][0], all[0][1]
	return append(all, [2][]byte{net[1:], prop}, [2][]byte{net, prop[:7]}, [2][]byte{nil, nil})
}

// 20.8, rule 3: bytes that are handed in stay, with the room behind them, which tells nothing; answers are new memory, and nothing is kept.
func TestBytesStay(t *testing.T) {
	given := 0
	for _, c := range memoryCases(t) {
		net, prop := samples.Roomy(c[0], 7), samples.Roomy(c[1], 8)
		before := slices.Concat(samples.Whole(net), samples.Whole(prop))
		got, e := Account(net, prop)
		want := slices.Clone(got)
		account := samples.Roomy(got, 9)
		samples.Scribble(got, 77)
		told := slices.Clone(samples.Whole(account))
		least, f := Check(net, prop, account)
		if !slices.Equal(before, slices.Concat(samples.Whole(net), samples.Whole(prop))) || !slices.Equal(told, samples.Whole(account)) {
			t.Fatalf("%s: what was given is changed, or a part of an answer", shown(c[0]))
		}
		if again, g := Account(c[0], c[1]); g != e || !slices.Equal(again, want) {
			t.Errorf("%s: %x %v, not %x %v: an answer was kept, or the room behind a list tells something", shown(c[0]), again, g, want, e)
		}
		samples.Scribble(net, 1)
		samples.Scribble(prop, 2)
		samples.Scribble(account, 3)
		if again, g := Check(c[0], c[1], want); g != f || again != least {
			t.Errorf("%s: %v %v, not %v %v: what was given is kept, or the room behind it tells something", shown(c[0]), again, g, least, f)
		}
		if e == api.OK {
			given++
		}
	}
	if given < 4 {
		t.Errorf("%d accounts only", given)
	}
}

// scribbled are regions that were written all over, behind the ends of their lists too.
func scribbled(parts []api.Region) {
	for _, r := range parts {
		samples.Scribble(r.Level, 77)
		samples.Scribble(r.At, 78)
	}
	samples.Scribble(parts, api.Region{Level: []int{1}})
}

// 20.1, 20.8, rule 3: parts are new memory: no two of their lists share any, nor do those of two calls.
func TestPartsAreNew(t *testing.T) {
	for _, tree := range [][]byte{{0}, {1, 0, 0}, {2, 1, 0, 3, 0, 0, 0}, even(1, 3, 6)} {
		for _, whole := range [][]byte{about(tree...), append(about(tree...), 0)} {
			b := samples.Roomy(whole, 9)
			before := slices.Clone(samples.Whole(b))
			parts, e := Parts(b, 3)
			other, _ := Parts(b, 3)
			var all [][]int
			for _, r := range slices.Concat(parts, other) {
				all = append(all, r.Level, r.At)
			}
			want, f := wantParts(whole, 3)
			if e != f || !sameParts(parts, want) {
				t.Errorf("%x: %v %v", whole, parts, e)
			}
			if at := samples.Sharing(all, func(i int) int { return i + 1 }); at >= 0 {
				t.Errorf("%x: the list %d shares memory", whole, at)
			}
			scribbled(parts)
			scribbled(other)
			if !slices.Equal(samples.Whole(b), before) {
				t.Errorf("%x: the bytes are changed", whole)
			}
			samples.Scribble(b, 5)
			if again, e := Parts(whole, 3); e != f || !sameParts(again, want) {
				t.Errorf("%x: %v %v: an answer was kept", whole, again, e)
			}
		}
	}
}

// 20.8: calls side by side, of the same bytes, disturb nothing.
func TestCallsSideBySide(t *testing.T) {
	net, prop := encoded(t, cases.Kinks(-0.5, 0.5), cases.Unit(numbers(1, 0.125)))
	want := laid(net, prop, 0.125, 1, 1, 0, 0, 1, 0, 0)
	var busy sync.WaitGroup
	for range 8 {
		busy.Go(func() {
			expectAccount(t, net, prop, want)
			expectCheck(t, net, prop, want, 0.125)
			expectParts(t, want, 1, region(2, 0), region(2, 1), region(2, 2), region(2, 3))
		})
	}
	busy.Wait()
}

// Rule 1: nil and empty lists mean the same.
func TestEmptyIsAsNil(t *testing.T) {
	net, prop := exampleBytes(t, false)
	that := laid(net, prop, 0.5, 0)
	for _, none := range [][]byte{nil, {}} {
		expectNoParts(t, none, 1, api.ErrMagic)
		expectNoAccount(t, none, prop, api.ErrMagic)
		expectNoAccount(t, net, none, api.ErrMagic)
		expectNoCheck(t, none, prop, that, api.ErrMagic)
		expectNoCheck(t, net, none, that, api.ErrMagic)
		expectNoCheck(t, net, prop, none, api.ErrMagic)
	}
	expectParts(t, about(0), 0, api.Region{})
	expectParts(t, about(0), 0, api.Region{Level: []int{}, At: []int{}})
}
