package atrium_test

import (
	"testing"

	"atrium/api"
)

// guarded: five instructions (Push, Store into the second local, Nop, Nop,
// Return) and, at 5, where the handlers go on, Throw, Throw (at 6).
func guarded(stack []api.Type, handlers ...api.Handler) api.Class {
	c := body(with(api.Push, 1), with(api.Store, 1), op(api.Nop), op(api.Nop), op(api.Return), op(api.Throw), op(api.Throw))
	c.Methods[0].Handlers = handlers
	c.Methods[0].Frames = []api.Frame{
		{At: 5, Locals: []api.Type{anInt, top}, Stack: stack},
		{At: 6, Locals: []api.Type{anInt, top}, Stack: []api.Type{null}},
	}
	return c
}

func TestHandlerClasses(t *testing.T) {
	from := func(class string) api.Handler { return api.Handler{From: 0, To: 5, At: 5, Class: class} }
	thrown := []api.Type{aThrowable}
	sound(t, "none: Throwable", guarded(thrown, from("")))
	sound(t, "Throwable", guarded(thrown, from("Throwable")))
	sound(t, "Error", guarded(thrown, from("Error")))
	sound(t, "one below Error", guarded([]api.Type{object("Error")}, from("Bounds")))
	sound(t, "one of which nothing is known", guarded(thrown, from("B")), api.Below{Class: "B", Above: "Throwable"})
	sound(t, "the one that is checked", guarded(thrown, from("A")), api.Below{Class: "A", Above: "Throwable"})
	sound(t, "its Super", guarded(thrown, from("S")), api.Below{Class: "S", Above: "Throwable"})
	own := guarded(thrown, from("A"))
	own.Super = "Throwable"
	sound(t, "the one that is checked, below Throwable", own)
	unsound(t, "Object", guarded([]api.Type{null}, from("Object")), 0, 0)
	object := guarded([]api.Type{anObject}, from("Object"))
	object.Methods[0].Code[5] = op(api.Return)
	unsound(t, "Object, to where it fits", object, 0, 0)
	object.Methods[0].Handlers[0].Class = ""
	sound(t, "Throwable, to where it fits", object)
}

func TestHandlerStack(t *testing.T) {
	any := api.Handler{From: 0, To: 5, At: 5}
	class := func(name string) api.Handler { return api.Handler{From: 0, To: 5, At: 5, Class: name} }
	unsound(t, "nothing on the stack", guarded(nil, any), 0, 0)
	unsound(t, "an Int on the stack", guarded([]api.Type{anInt}, any), 0, 0)
	unsound(t, "Null on the stack", guarded([]api.Type{null}, any), 0, 0)
	unsound(t, "more on the stack", guarded([]api.Type{anInt, aThrowable}, any), 0, 0)
	unsound(t, "Top on the stack", guarded([]api.Type{top}, any), 0, 0)
	unsound(t, "less than Throwable", guarded([]api.Type{object("Error")}, any), 0, 0)
	unsound(t, "another error", guarded([]api.Type{object("Arith")}, class("Bounds")), 0, 0)
	sound(t, "taken for granted", guarded([]api.Type{object("C")}, class("B")),
		api.Below{Class: "B", Above: "C"}, api.Below{Class: "B", Above: "Throwable"}, api.Below{Class: "C", Above: "Throwable"})
	flat := body(op(api.Return), op(api.Return))
	flat.Methods[0].Stack = 0
	flat.Methods[0].Handlers = []api.Handler{{From: 0, To: 1, At: 1}}
	flat.Methods[0].Frames = []api.Frame{{At: 1, Locals: []api.Type{anInt, top}}}
	unsound(t, "a method without a stack", flat, 0, 0)
}

// TestHandlerReach: From and on, ahead of To, with the locals that there are at
// each instruction, its frame's if it has one.
func TestHandlerReach(t *testing.T) {
	thrown := []api.Type{aThrowable}
	reach := func(from, to int) api.Class {
		c := guarded(thrown, api.Handler{From: from, To: to, At: 5})
		c.Methods[0].Frames[0].Locals[1] = anInt
		return c
	}
	unsound(t, "ahead of Store", reach(0, 5), 0, 0)
	unsound(t, "at Store", reach(1, 5), 0, 1)
	sound(t, "behind Store", reach(2, 5))
	unsound(t, "just ahead of Store", reach(0, 1), 0, 0)
	unsound(t, "just Store", reach(1, 2), 0, 1)
	sound(t, "just behind Store", reach(2, 3))
	c := reach(2, 4)
	c.Methods[0].Frames = append([]api.Frame{{At: 3, Locals: []api.Type{anInt, top}}}, c.Methods[0].Frames...)
	unsound(t, "a frame that has forgotten a local", c, 0, 3)
	c.Methods[0].Handlers[0].To = 3
	sound(t, "ahead of that frame", c)
	c.Methods[0].Handlers[0] = api.Handler{From: 4, To: 5, At: 5}
	unsound(t, "behind that frame", c, 0, 4)
	itself := guarded(thrown, api.Handler{From: 5, To: 6, At: 5})
	sound(t, "a handler of its own instruction", itself)
	itself.Methods[0].Handlers[0].To = 7
	sound(t, "to the end of the code", itself)
}

func TestHandlerFrame(t *testing.T) {
	c := guarded([]api.Type{aThrowable}, api.Handler{From: 2, To: 3, At: 4})
	unsound(t, "no frame there", c, 0, 2)
	c.Methods[0].Handlers[0].At = 0
	unsound(t, "no frame at 0", c, 0, 2)
	c.Methods[0].Handlers[0].At = 2
	unsound(t, "no frame at itself", c, 0, 2)
	c = guarded([]api.Type{aThrowable}, api.Handler{From: 0, To: 5, At: 5})
	c.Methods[0].Frames[0].Locals[0] = aRow
	unsound(t, "another local", c, 0, 0)
}

// TestAllHandlers: each one counts, whatever those ahead of it do.
func TestAllHandlers(t *testing.T) {
	thrown := []api.Type{aThrowable}
	good := api.Handler{From: 0, To: 5, At: 5}
	late := api.Handler{From: 3, To: 4, At: 4}
	sound(t, "two", guarded(thrown, good, good))
	unsound(t, "the second one is wrong, later", guarded(thrown, good, late), 0, 3)
	unsound(t, "the first one is wrong, later", guarded(thrown, late, good), 0, 3)
	unsound(t, "the earlier one of two wrong ones", guarded(thrown, late, api.Handler{From: 2, To: 3, At: 6}), 0, 2)
	sound(t, "two of one instruction", guarded(thrown, api.Handler{From: 0, To: 1, At: 5, Class: "B"}, api.Handler{From: 0, To: 1, At: 5, Class: "C"}),
		api.Below{Class: "B", Above: "Throwable"}, api.Below{Class: "C", Above: "Throwable"})
}

// TestHandlerOfWhatEnds: Return and Goto have their handlers too.
func TestHandlerOfWhatEnds(t *testing.T) {
	unsound(t, "Return", guarded(nil, api.Handler{From: 4, To: 5, At: 5}), 0, 4)
	c := body(with(api.Goto, 1), op(api.Return))
	c.Methods[0].Frames = []api.Frame{{At: 1, Locals: []api.Type{anInt, top}}}
	sound(t, "Goto without a handler", c)
	c.Methods[0].Handlers = []api.Handler{{From: 0, To: 1, At: 1}}
	unsound(t, "Goto", c, 0, 0)
}
