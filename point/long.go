package point

import "ambit/api"

// tooLong is what a call gives up with.
type tooLong struct{}

// giveUp leaves all that was begun, up to the call that is answered.
func giveUp() { panic(tooLong{}) }

// fitting is what work tells; nothing and ErrBits, if it gave up.
func fitting[T any](work func() T) (told T, e api.Errno) {
	defer func() {
		thrown := recover()
		if thrown == (tooLong{}) {
			e = api.ErrBits
		} else if thrown != nil {
			panic(thrown)
		}
	}()
	return work(), api.OK
}
