package atrium_test

import (
	"testing"

	"atrium/api"
)

func TestThrow(t *testing.T) {
	plainly(t, "one that is there", "uncaught Deep 2", made("Deep"), throw)
	plainly(t, "Throwable itself", "uncaught Throwable 2", made("Throwable"), throw)
	plainly(t, "null", "uncaught NullRef 2", nulled, throw)
	runs(t, "P10: one of its own", running(mainOf(made("T"), throw), classOf("T", "U"), classOf("U", "Error")), "?A +A .A ?T ?U +U .U +T .T uncaught T 2")
	runs(t, "P10: null is caught as a NullRef", running(classOf("A", "Object", catching(static("main", nulled, throw), 1, 2, "NullRef", pop, num(1), show, ret))), "?A +A .A 1 halted 6")
}

// TestWhatIsCaught: by its own class, by one above it, by none; nothing is asked for to know that.
func TestWhatIsCaught(t *testing.T) {
	for class, want := range map[string]string{
		"":          "1 halted 6",
		"T":         "1 halted 6",
		"U":         "1 halted 6",
		"Heap":      "1 halted 6",
		"Error":     "1 halted 6",
		"Throwable": "1 halted 6",
		"Deep":      "uncaught T 2",
		"Y":         "uncaught T 2",
	} {
		main := catching(static("main", made("T"), throw), 0, 2, class, pop, num(1), show, ret)
		runs(t, "P10: a handler of "+class, running(classOf("A", "Object", main), classOf("T", "U"), classOf("U", "Heap"), classOf("Y", "T")), "?A +A .A ?T ?U +U .U +T .T "+want)
	}
}

// thrower: main throws an Arith at 3; in front and behind stand Nops.
func thrower(handlers ...api.Handler) api.Class {
	nop := op(api.Nop)
	m := static("main", num(1), num(0), nop, op(api.Div), nop, nop, ret)
	for i := range handlers {
		at := len(m.Code)
		handlers[i].At = at
		m.Frames = append(m.Frames, frameAt(m, at, aThrowable))
		m.Code = append(m.Code, pop, num(i+1), show, ret)
	}
	m.Handlers = handlers
	return classOf("A", "Object", m)
}

func TestReachOfHandlers(t *testing.T) {
	over := func(from, to int, class string) api.Handler {
		return api.Handler{From: from, To: to, Class: class}
	}
	for _, c := range []struct {
		l    []api.Handler
		want string
	}{
		{nil, "uncaught Arith 4"},
		{[]api.Handler{over(3, 4, "")}, "1 halted 8"},
		{[]api.Handler{over(0, 7, "")}, "1 halted 8"},
		{[]api.Handler{over(0, 4, "")}, "1 halted 8"},
		{[]api.Handler{over(0, 3, "")}, "uncaught Arith 4"},
		{[]api.Handler{over(4, 7, "")}, "uncaught Arith 4"},
		{[]api.Handler{over(0, 3, ""), over(4, 7, ""), over(3, 4, "")}, "3 halted 8"},
		{[]api.Handler{over(0, 7, "Throwable"), over(3, 4, "Arith")}, "1 halted 8"},
		{[]api.Handler{over(0, 7, "Bounds"), over(3, 4, "Error"), over(0, 7, "")}, "2 halted 8"},
		{[]api.Handler{over(3, 4, "Bounds"), over(3, 4, "NoClass")}, "uncaught Arith 4"},
	} {
		runs(t, "P10: handlers", running(thrower(c.l...)), "?A +A .A "+c.want)
	}
}

// TestBehindAHandler: the locals stay, the stack has nothing but what was thrown.
func TestBehindAHandler(t *testing.T) {
	keep := one(num(5), with(api.Store, 0), num(1), num(2), num(1), num(0), op(api.Div), pop, pop, pop, ret)
	m := catching(static("main", keep...), 6, 7, "Arith", ofClass(api.Is, "Arith"), show, with(api.Load, 0), show, ret)
	m.Frames[0].Locals[0] = anInt
	runs(t, "P10: locals and stack", running(classOf("A", "Object", m)), "?A +A .A 1 5 halted 12")
	m.Stack = 4
	runs(t, "P10: a full stack", running(classOf("A", "Object", m)), "?A +A .A 1 5 halted 12")
	again := catching(static("main", made("Arith"), throw), 0, 2, "", throw)
	runs(t, "P10: thrown again", running(classOf("A", "Object", again)), "?A +A .A uncaught Arith 3")
	// the handler stands in its own reach: what it throws comes to it again
	ring := catching(static("main", nulled, throw), 0, 3, "", throw)
	ring.Frames[0].Stack = []api.Type{aThrowable}
	s := running(classOf("A", "Object", ring))
	s.Fuel = 20
	runs(t, "P10: round and round", s, "?A +A .A spent 20")
}

// TestThroughMethods: it goes on where the method was called, and so on.
func TestThroughMethods(t *testing.T) {
	call := func(name string) api.Instr { return methodOf(api.Call, "A", name, void) }
	h := static("h", made("Arith"), throw)
	g := static("g", num(1), call("h"), pop, ret)
	caught := func(m api.Method, from, to int) api.Method {
		return catching(m, from, to, "Error", pop, num(len(m.Name)), show, ret)
	}
	main := static("main", call("g"), num(0), show, ret)
	runs(t, "P10: nowhere", running(classOf("A", "Object", main, g, h)), "?A +A .A uncaught Arith 5")
	runs(t, "P10: in main", running(classOf("A", "Object", caught(main, 0, 1), g, h)), "?A +A .A 4 halted 9")
	runs(t, "P10: in main, elsewhere", running(classOf("A", "Object", caught(main, 1, 4), g, h)), "?A +A .A uncaught Arith 5")
	runs(t, "P10: between", running(classOf("A", "Object", caught(main, 0, 1), caught(g, 1, 2), h)), "?A +A .A 1 0 halted 12")
	runs(t, "P10: between, behind it", running(classOf("A", "Object", caught(main, 0, 1), caught(g, 2, 3), h)), "?A +A .A 4 halted 9")
	runs(t, "P10: between, ahead of it", running(classOf("A", "Object", caught(main, 0, 1), caught(g, 0, 1), h)), "?A +A .A 4 halted 9")
	runs(t, "P10: where it is thrown", running(classOf("A", "Object", caught(main, 0, 1), caught(g, 1, 2), caught(h, 1, 2))), "?A +A .A 1 0 halted 14")
	f := own("f", void, num(1), num(0), op(api.Div), pop, ret)
	invoke := catching(static("main", made("B"), methodOf(api.Invoke, "B", "f", void), ret), 1, 2, "Arith", pop, num(7), show, ret)
	runs(t, "P10: out of an Invoke", running(classOf("A", "Object", invoke), classOf("B", "Object", f)), "?A +A .A ?B +B .B 7 halted 9")
}

// TestErrorsAreCaught: each error that the machine throws, where it is needed.
func TestErrorsAreCaught(t *testing.T) {
	for class, code := range map[string][]api.Instr{
		"NoClass":  one(made("X"), pop),
		"BadForm":  one(made("F"), pop),
		"Circular": one(made("R"), pop),
		"BadClass": one(made("W"), pop),
		"NoField":  one(getY("Object"), pop),
		"NoMethod": one(methodOf(api.Call, "Object", "f", void)),
		"BadInit":  one(made("I"), pop),
		"Arith":    one(num(1), num(0), op(api.Div), pop),
		"NullRef":  one(nulled, op(api.Size), pop),
		"BadCast":  one(made("Object"), ofClass(api.Cast, "Error"), pop),
		"Bounds":   one(num(1), op(api.NewInts), num(1), op(api.GetAt), pop),
		"BadSize":  one(num(-1), op(api.NewInts), pop),
		"Heap":     one(num(1000), op(api.NewInts), pop),
		"Deep":     one(methodOf(api.Call, "A", "down", void)),
	} {
		down := static("down", methodOf(api.Call, "A", "down", void), ret)
		for _, by := range []string{class, "Error", "Throwable", ""} {
			main := catching(static("main", append(code, ret)...), 0, len(code), by, ofClass(api.Is, class), show, ret)
			s := running(classOf("A", "Object", main, down), classOf("R", "R"), classOf("W", "Object", static("f", pop)), classOf("I", "Object", fails("Throwable")))
			s.Entries = append(s.Entries, api.Entry{Name: "F"})
			if got := lastPrinted(t, s); got != "1 halted" {
				t.Errorf("P10: %s caught as %q: %s", class, by, got)
			}
		}
	}
}
