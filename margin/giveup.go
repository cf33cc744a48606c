package margin

// gaveUp is what a call gives up with.
type gaveUp struct{}

// giveUp leaves all that was begun, up to the call that is answered.
func giveUp() { panic(gaveUp{}) }

// unlessGivenUp is what work tells, and true; nothing and false, if it gave up.
func unlessGivenUp[T any](work func() T) (told T, ok bool) {
	defer func() {
		thrown := recover()
		if thrown != nil && thrown != (gaveUp{}) {
			panic(thrown)
		}
	}()
	return work(), true
}
