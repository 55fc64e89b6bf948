package eslib

import "pennant/api"

// stop is what a call is given up with, however deep it is.
type stop struct{ why api.Errno }

// run does what a call is to do, and tells why that was stopped, if it was.
func run(do func() api.Value) (v api.Value, e api.Errno) {
	defer func() {
		if s, ok := recover().(stop); ok {
			v, e = api.Value{}, s.why
		}
	}()
	return do(), api.OK
}

func fail(why api.Errno) { panic(stop{why}) }

// must stops at a lower layer's error.
func must(e api.Errno) {
	if e != api.OK {
		fail(e)
	}
}

// need stops where a value isn't of the kind that is needed.
func need(is bool) {
	if !is {
		fail(api.ErrThrow)
	}
}
