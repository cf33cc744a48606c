package act

// noNumber is what a call gives up with.
type noNumber struct{}

// giveUp leaves all that was begun, up to the call that is answered.
func giveUp() { panic(noNumber{}) }

// must is a number that is called for.
func must(a float64, ok bool) float64 {
	if !ok {
		giveUp()
	}
	return a
}

// ends tells whether work came to its end without giving up.
func ends(work func()) (ok bool) {
	defer func() {
		if r := recover(); r != nil && r != (noNumber{}) {
			panic(r)
		}
	}()
	work()
	return true
}
