// Package atrium: classes that are run, each had when it is needed first: see DOC.md.
package atrium

import (
	"atrium/api"
	"atrium/check"
	"atrium/machine"
	"atrium/wire"
)

// Encode writes a class as bytes (P3).
func Encode(c api.Class) (string, api.Errno) {
	s, why := caught(func() string { return wire.Write(c) })
	_, e := told(why)
	return s, e
}

// Decode reads a class (P4).
func Decode(s string) (api.Class, api.Errno) {
	c, why := caught(func() api.Class { return wire.Read(s) })
	_, e := told(why)
	return c, e
}

// Check tells whether a class's methods can go wrong (P5).
func Check(c api.Class) ([]api.Below, int, int, api.Errno) {
	granted, why := caught(func() []api.Below { return check.Class(c) })
	place, e := told(why)
	return granted, place.Method, place.At, e
}

// Run runs a script (P6).
func Run(s api.Script) (api.Result, api.Errno) {
	if !machine.IsScript(s) {
		return api.Result{}, api.ErrScript
	}
	calls := machine.Calls{Decode: Decode, Check: Check}
	r, why := caught(func() api.Result { return machine.Run(s, calls) })
	_, e := told(why)
	return r, e
}

// caught does some work that may be given up on deep inside: why is what it was
// given up on with, or nil.
func caught[T any](work func() T) (answer T, why any) {
	defer func() {
		why = recover()
	}()
	return work(), nil
}

// told takes whatever it does not know for ErrForm: no call may panic, whatever
// is wrong inside.
func told(why any) (place check.Wrong, e api.Errno) {
	switch w := why.(type) {
	case nil:
		return check.Wrong{}, api.OK
	case check.Wrong:
		return w, api.ErrCheck
	}
	return check.Wrong{}, api.ErrForm
}
