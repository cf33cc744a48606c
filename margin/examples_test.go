package margin

import "testing"

// 17.1: the chapter's example.
func TestExampleOfClaims(t *testing.T) {
	expectClaims(t, example().p, 2, numbers(1, -1, 0))
}

// 17.2, 17.3: the chapter's examples 2, 3, 4 and 7.
func TestExamplesOfMargins(t *testing.T) {
	one, two := numbers(1, -1, 0), numbers(1, 0, 0)
	expectMargin(t, first(), one, 0.5)
	expectMargin(t, first(), two, -0.25)
	expectWorst(t, first(), lists(one, two), 1, -0.25)
	expectNoMargin(t, first(), numbers(1, -1))
}

// 17.4: the chapter's examples.
func TestExamplesOfSigns(t *testing.T) {
	expectSigns(t, first(), numbers(1, 0, 0), 1, -1)
	expectSigns(t, first(), numbers(1, -1, 0), 1, 0)
}

// 17.5: the chapter's example: x is -0.5 0.25, and the outputs are -0.25 -0.75.
func TestExampleOfTrials(t *testing.T) {
	c := example()
	c.p.Claims, c.signs = lists(numbers(1, 0, 0)), signs(-1)
	c.expect(t, 1, 0.25)
}
