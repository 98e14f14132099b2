package check

import (
	"atrium/api"
	"atrium/base"
)

func object(class string) api.Type {
	return api.Type{Kind: api.Object, Class: class}
}

// mustFitAt is for what goes on elsewhere: without a frame nothing is known there.
func (w *walk) mustFitAt(s state, at int) {
	f, found := w.frame(at)
	w.must(found)
	w.mustFit(s, f)
}

// mustFit lets a local be Top, not what lies on the stack: that could not be
// taken any more.
func (w *walk) mustFit(s state, f api.Frame) {
	w.must(len(s.stack) == len(f.Stack))
	for i, t := range s.stack {
		w.must(w.fits(t, f.Stack[i]))
	}
	for i, t := range s.locals {
		w.must(f.Locals[i].Kind == api.Top || w.fits(t, f.Locals[i]))
	}
}

func (w *walk) fits(t, asked api.Type) bool {
	switch {
	case t == asked:
		return true
	case t.Kind == api.Null:
		return asked.Kind == api.Ints || asked.Kind == api.Object
	case t.Kind == api.Object && asked.Kind == api.Object:
		return w.isBelow(t.Class, asked.Class)
	}
	return false
}

// isBelow takes for granted what cannot be known ahead of the classes' being
// there, and remembers it.
func (w *walk) isBelow(class, above string) bool {
	switch {
	case class == above || above == base.Object:
		return true
	case base.IsThere(class):
		return base.IsBelow(class, above)
	case class == w.class.Name && above == w.class.Super:
		return true
	}
	w.granted[api.Below{Class: class, Above: above}] = struct{}{}
	return true
}
