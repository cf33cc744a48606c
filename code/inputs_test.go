package code

import (
	"bytes"
	"fmt"
	"testing"

	"ambit/api"
	"ambit/model"
	"ambit/samples"
)

// shown is bytes as an error tells them: no more than the first ones.
func shown(b []byte) string {
	if len(b) > 60 {
		return fmt.Sprintf("%x.. (%d bytes)", b[:60], len(b))
	}
	return fmt.Sprintf("%x", b)
}

// expectNetBytes holds a network to its bytes, both ways.
func expectNetBytes(t *testing.T, n api.Net, want []byte) {
	t.Helper()
	if b, e, at := EncodeNet(n); e != api.OK || at != 0 || !bytes.Equal(b, want) {
		t.Errorf("EncodeNet(%+v): %s %v %d, not %s", n, shown(b), e, at, shown(want))
	}
	if got, e, at := DecodeNet(want); e != api.OK || at != 0 || !samples.SameNet(got, n) {
		t.Errorf("DecodeNet(%s): %+v %v %d, not %+v", shown(want), got, e, at, n)
	}
}

func expectPropBytes(t *testing.T, p api.Prop, want []byte) {
	t.Helper()
	if b, e, at := EncodeProp(p); e != api.OK || at != 0 || !bytes.Equal(b, want) {
		t.Errorf("EncodeProp(%+v): %s %v %d, not %s", p, shown(b), e, at, shown(want))
	}
	if got, e, at := DecodeProp(want); e != api.OK || at != 0 || !samples.SameProp(got, p) {
		t.Errorf("DecodeProp(%s): %+v %v %d, not %+v", shown(want), got, e, at, p)
	}
}

// expectNoNet holds DecodeNet to an error and its place, and to nothing beside them.
func expectNoNet(t *testing.T, b []byte, e api.Errno, at int) {
	t.Helper()
	if n, f, place := DecodeNet(b); f != e || place != at || !samples.SameNet(n, api.Net{}) {
		t.Errorf("DecodeNet(%s): %+v beside %v at %d, not %v at %d alone", shown(b), n, f, place, e, at)
	}
}

func expectNoProp(t *testing.T, b []byte, e api.Errno, at int) {
	t.Helper()
	if p, f, place := DecodeProp(b); f != e || place != at || !samples.SameProp(p, api.Prop{}) {
		t.Errorf("DecodeProp(%s): %+v beside %v at %d, not %v at %d alone", shown(b), p, f, place, e, at)
	}
}

// expectNoNetBytes holds EncodeNet to what model.Check tells, and to nothing beside it.
func expectNoNetBytes(t *testing.T, n api.Net, e api.Errno, at int) {
	t.Helper()
	if b, f, place := EncodeNet(n); f != e || place != at || len(b) != 0 {
		t.Errorf("EncodeNet of %d layers and %d names over %v: %s beside %v at %d, not %v at %d alone", len(n.Layers), len(n.Names), n.In, shown(b), f, place, e, at)
	}
	if f, place := model.Check(n); f != e || place != at {
		t.Errorf("model.Check of %d layers and %d names over %v: %v at %d, not %v at %d", len(n.Layers), len(n.Names), n.In, f, place, e, at)
	}
}

// expectForm holds CheckForm to an error and its place, and EncodeProp to the same.
func expectForm(t *testing.T, p api.Prop, e api.Errno, at int) {
	t.Helper()
	if f, place := CheckForm(p); f != e || place != at {
		t.Errorf("CheckForm(%+v): %v at %d, not %v at %d", p, f, place, e, at)
	}
	b, f, place := EncodeProp(p)
	if f != e || place != at || (e == api.OK) != (len(b) != 0) {
		t.Errorf("EncodeProp(%+v): %s beside %v at %d, not %v at %d", p, shown(b), f, place, e, at)
	}
}
