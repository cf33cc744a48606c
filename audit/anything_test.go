package audit

import (
	"fmt"
	"testing"

	"ambit/api"
	"ambit/cases"
	"ambit/oracle"
	"ambit/samples"
)

// anyBytes are some that are made of nothing in particular, though they often begin as an account does.
func anyBytes(m *oracle.Mixer) []byte {
	var b []byte
	if m.Below(4) > 0 {
		b = laid([]byte("netw"), []byte("prop"), 1, 0)[:21]
	}
	few := m.Below(2) == 0
	for range m.Below([]int{4, 8, 60}[m.Below(3)]) {
		c := byte(m.Word())
		if few {
			c %= 4
		}
		b = append(b, c)
	}
	if len(b) > 4 && m.Below(2) == 0 {
		b = resealed(b)
	}
	if m.Below(8) == 0 {
		b = append(b, 0)
	}
	return b
}

// 20.8: whatever bytes there are, Parts ends, and tells what it tells, twice the same.
func TestAnyPartsEnd(t *testing.T) {
	t.Parallel()
	var m oracle.Mixer
	seen := oracle.Tally{}
	for range 30000 {
		b, k := anyBytes(&m), samples.AnyWhole(&m)
		want, e := wantParts(b, k)
		for range 2 {
			if e == api.OK {
				expectParts(t, b, k, want...)
			} else {
				expectNoParts(t, b, k, e)
			}
		}
		if t.Failed() {
			return
		}
		seen.Note(fmt.Sprint(e), true)
	}
	for _, e := range []api.Errno{api.OK, api.ErrArg, api.ErrMagic, api.ErrShort, api.ErrForm, api.ErrAccount, api.ErrSum, api.ErrRest} {
		seen.Expect(t, 5, fmt.Sprint(e))
	}
}

// 20.8: so do Account and Check, whatever all their bytes are.
func TestAnyBytesEnd(t *testing.T) {
	t.Parallel()
	var m oracle.Mixer
	seen := oracle.Tally{}
	for range 1000 {
		n, p := cases.Mixed(&m)
		p.Looks = 1 + m.Below(5)
		net, prop := encoded(t, n, p)
		account := mixedAccount(&m, n, p, net, prop, nil)
		all := []*[]byte{&net, &prop, &account}
		switch m.Below(4) {
		case 0:
			*all[m.Below(3)] = anyBytes(&m)
		case 1:
			i, j := m.Below(3), m.Below(3)
			*all[i], *all[j] = *all[j], *all[i]
		case 2:
			i := m.Below(3)
			if len(*all[i]) > 0 {
				*all[i] = spoilt(&m, *all[i])
			}
		}
		want, e := wantAccount(net, prop)
		if e == api.OK {
			expectAccount(t, net, prop, want)
		} else {
			expectNoAccount(t, net, prop, e)
		}
		least, f := wantCheck(net, prop, account)
		if f == api.OK {
			expectCheck(t, net, prop, account, least)
		} else {
			expectNoCheck(t, net, prop, account, f)
		}
		if t.Failed() {
			return
		}
		seen.Note(fmt.Sprint("account ", e), true)
		seen.Note(fmt.Sprint("check ", f), true)
	}
	for _, e := range []api.Errno{api.OK, api.ErrMagic, api.ErrSum} {
		seen.Expect(t, 10, fmt.Sprint("account ", e), fmt.Sprint("check ", e))
	}
	seen.Expect(t, 10, fmt.Sprint("account ", api.ErrNone), fmt.Sprint("check ", api.ErrOpen), fmt.Sprint("check ", api.ErrAccount))
}
