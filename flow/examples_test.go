package flow

import (
	"testing"

	"ambit/api"
	"ambit/samples"
)

// 16.1: the chapter's examples 1, 3 and 4.
func TestExamplesOfStarts(t *testing.T) {
	c := first()
	c.expectStart(t, plain(numbers(0.5, 0.25), numbers(1, 0)))
	c.r = region(1, 1)
	c.expectStart(t, plain(numbers(1, 0.25), numbers(0.5, 0)))
	c.r = region(1, 2)
	c.expectNone(t, api.ErrRegion)
}

// 16.2: the chapter's examples 2, 5 and 6.
func TestExamplesOfPushes(t *testing.T) {
	c := first()
	c.expectPush(t, zonos(plain(numbers(0.5, 0.25), numbers(1, 0)), plain(numbers(0.75, 0.25), numbers(1, 1))), 1, -1)
	c.expectNoPush(t, 0, api.ErrArg)
	c.p.G = lists(numbers(0x1p1023, 0x1p1023))
	c.expectPush(t, zonos(plain(numbers(0.5, 0.25), c.p.G[0]), samples.BadZono(2)), 1, 1)
}
