// Package shape says what a class is: the bounds of the document's section Words.
//
// What is no class is given up on by a panic with api.ErrForm, so that what lies
// deep inside need not hand an error up through every list that it stands in.
// Package atrium catches it.
package shape

import (
	"slices"

	"atrium/api"
)

// Must gives up unless what is asked for holds.
func Must(holds bool) {
	if !holds {
		panic(api.ErrForm)
	}
}

// MustBeClass gives up unless c is a class.
func MustBeClass(c api.Class) {
	mustBeName(c.Name)
	mustBeName(c.Super)
	mustBeFields(c.Fields)
	mustBeMethods(c.Methods)
}

func mustBeFields(fields []api.Field) {
	Must(len(fields) <= api.MaxFields)
	for i, f := range fields {
		mustBeName(f.Name)
		mustBeType(f.Type, isOfValue)
		for _, ahead := range fields[:i] {
			Must(ahead.Name != f.Name)
		}
	}
}

func mustBeMethods(methods []api.Method) {
	Must(len(methods) <= api.MaxMethods)
	for i, m := range methods {
		mustBeMethod(m)
		for _, ahead := range methods[:i] {
			Must(!HaveOneSignature(ahead, m))
		}
	}
}

// HaveOneSignature leaves aside whether they are static: that is no part of a signature.
func HaveOneSignature(a, b api.Method) bool {
	return a.Name == b.Name && a.Result == b.Result && slices.Equal(a.Params, b.Params)
}

func mustBeMethod(m api.Method) {
	mustBeName(m.Name)
	mustBeParams(m.Params)
	mustBeType(m.Result, isOfResult)
	Must(neededLocals(m) <= m.Locals && m.Locals <= api.MaxLocals)
	Must(0 <= m.Stack && m.Stack <= api.MaxStack)
	mustBeCode(m)
	mustBeHandlers(m)
	mustBeFrames(m)
}

// neededLocals counts one for the object itself, where there is one.
func neededLocals(m api.Method) int {
	if m.Static {
		return len(m.Params)
	}
	return len(m.Params) + 1
}

func mustBeHandlers(m api.Method) {
	Must(len(m.Handlers) <= api.MaxHandlers)
	for _, h := range m.Handlers {
		Must(0 <= h.From && h.From < h.To && h.To <= len(m.Code))
		Must(isPlace(h.At, m))
		if h.Class != "" {
			mustBeName(h.Class)
		}
	}
}

func mustBeFrames(m api.Method) {
	Must(len(m.Frames) <= api.MaxFrames)
	ahead := -1
	for _, f := range m.Frames {
		Must(ahead < f.At && isPlace(f.At, m))
		ahead = f.At
		Must(len(f.Locals) == m.Locals && len(f.Stack) <= m.Stack)
		mustBeTypes(f.Locals, isOfFrame)
		mustBeTypes(f.Stack, isOfFrame)
	}
}

func isPlace(n int, m api.Method) bool {
	return 0 <= n && n < len(m.Code)
}
