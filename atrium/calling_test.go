package atrium_test

import (
	"strconv"
	"testing"

	"atrium/api"
)

// wide: a method with six parameters that prints those numbers among them; its
// locals begin with the object, if it is not static.
func wide(static bool) api.Method {
	m := api.Method{Name: "wide", Static: static, Params: []api.Type{anInt, aRow, anInt, anObject, anInt, anInt}, Result: anInt, Locals: 8, Stack: 2}
	first := 1
	if static {
		first = 0
	}
	m.Code = one(with(api.Load, first), show, with(api.Load, first+1), op(api.Size), show, with(api.Load, first+2), show, with(api.Load, first+3), ofClass(api.Is, "Arith"), show, with(api.Load, first+4), show, with(api.Load, first+5), giving)
	return m
}

// TestParameters: they come in their order, and what lies below them stays.
func TestParameters(t *testing.T) {
	m := wide(true)
	args := one(num(1), num(2), op(api.NewInts), num(3), made("Arith"), num(5), num(6))
	main := static("main", append(append(one(num(9)), args...), methodOf(api.Call, "A", "wide", anInt, m.Params...), show, show, ret)...)
	runs(t, "P10: Call", running(classOf("A", "Object", main, m)), "?A +A .A 1 2 3 1 5 6 9 halted 26")
	main = static("main", append(append(one(num(9), made("B")), args...), methodOf(api.Invoke, "B", "wide", anInt, m.Params...), show, show, ret)...)
	main.Stack = 10
	runs(t, "P10: Invoke", running(classOf("A", "Object", main), classOf("B", "Object", wide(false))), "?A +A .A ?B +B .B 1 2 3 1 5 6 9 halted 27")
}

// TestLocalsOfEachCall: each method that is under way has its own.
func TestLocalsOfEachCall(t *testing.T) {
	down := api.Method{Name: "down", Static: true, Params: types(1), Result: anInt, Locals: 2, Stack: 3}
	down.Code = one(with(api.Load, 0), with(api.IfZero, 10), with(api.Load, 0), with(api.Store, 1), with(api.Load, 0), num(-1), op(api.Add), methodOf(api.Call, "A", "down", anInt, anInt), with(api.Load, 1), with(api.Goto, 12), num(100), giving, op(api.Sub), giving)
	down.Frames = []api.Frame{{At: 10, Locals: []api.Type{anInt, top}}, {At: 12, Locals: []api.Type{anInt, anInt}, Stack: types(2)}}
	for n, want := range []string{"100 halted 8", "99 halted 20", "97 halted 32", "94 halted 44"} {
		main := static("main", num(n), methodOf(api.Call, "A", "down", anInt, anInt), show, ret)
		runs(t, "P10: down from "+strconv.Itoa(n), running(classOf("A", "Object", main, down)), "?A +A .A "+want)
	}
}

func TestCall(t *testing.T) {
	gives := func(n int) api.Method {
		return api.Method{Name: "f", Static: true, Result: anInt, Stack: 1, Code: one(num(n), giving)}
	}
	call := func(class string, result api.Type, params ...api.Type) api.Instr {
		return methodOf(api.Call, class, "f", result, params...)
	}
	had := "?A +A .A ?B ?C "
	c := classOf("C", "Object", gives(3))
	runs(t, "P10: the class itself first", running(mainOf(call("B", anInt), show, ret), classOf("B", "C", gives(2)), c), had+"+C .C +B .B 2 halted 5")
	runs(t, "P10: then above", running(mainOf(call("B", anInt), show, ret), classOf("B", "C"), c), had+"+C .C 3 halted 5")
	runs(t, "P10: the one above", running(mainOf(call("C", anInt), show, call("B", anInt), show, ret), classOf("B", "C", gives(2)), c), "?A +A .A ?C +C .C 3 ?B +B .B 2 halted 9")
	runs(t, "P10: another thing that it gives", running(mainOf(call("B", aRow), pop, ret), classOf("B", "C"), c), had+"uncaught NoMethod 1")
	runs(t, "P10: other parameters", running(mainOf(num(1), call("B", anInt, anInt), pop, ret), classOf("B", "C"), c), had+"uncaught NoMethod 2")
	runs(t, "P10: another name", running(mainOf(methodOf(api.Call, "B", "F", anInt), pop, ret), classOf("B", "C"), c), had+"uncaught NoMethod 1")
	runs(t, "P10: one that gives another thing is passed over", running(mainOf(call("B", anInt), show, ret), classOf("B", "C", api.Method{Name: "f", Result: aRow, Locals: 1, Stack: 1, Code: one(nulled, giving)}), c), had+"+C .C 3 halted 5")
	runs(t, "P10: not static", running(mainOf(call("B", void), ret), classOf("B", "C", own("f", void, ret)), c), had+"uncaught NoMethod 1")
	runs(t, "P10: no class", running(mainOf(call("B", void), ret)), "?A +A .A ?B uncaught NoClass 1")
	runs(t, "P10: of a class that is there", running(mainOf(call("Error", void), ret)), "?A +A .A uncaught NoMethod 1")
	runs(t, "P10: the class of a parameter is not asked for", running(classOf("A", "Object", static("main", nulled, methodOf(api.Call, "A", "g", object("Z"), object("Y")), pop, ret), api.Method{Name: "g", Static: true, Params: []api.Type{object("Y")}, Result: object("Z"), Locals: 1, Stack: 1, Code: one(nulled, giving)})), "?A +A .A halted 6")
}

func TestInvoke(t *testing.T) {
	gives := func(n int) api.Method { return own("f", anInt, num(n), giving) }
	invoke := func(class string) api.Instr { return methodOf(api.Invoke, class, "f", anInt) }
	b, c, e := classOf("B", "C", gives(2)), classOf("C", "E", gives(3)), classOf("E", "Object")
	low := classOf("L", "B")
	had := "?A +A .A ?L ?B ?C ?E +E .E +C .C +B .B +L .L "
	for class, want := range map[string]string{"L": "2 halted 6", "B": "2 halted 6", "C": "2 halted 6", "E": "uncaught NoMethod 2", "Object": "uncaught NoMethod 2"} {
		runs(t, "P10: of the object's class, named in "+class, running(mainOf(made("L"), invoke(class), show, ret), low, b, c, e), had+want)
	}
	runs(t, "P10: of one above", running(mainOf(made("C"), invoke("C"), show, ret), low, b, c, e), "?A +A .A ?C ?E +E .E +C .C 3 halted 6")
	runs(t, "P10: null", running(mainOf(nulled, invoke("B"), pop, ret), low, b, c, e), "?A +A .A ?B ?C ?E uncaught NullRef 2")
	runs(t, "P10: null with parameters", running(mainOf(nulled, num(1), methodOf(api.Invoke, "B", "g", void, anInt), ret), classOf("B", "Object", api.Method{Name: "g", Params: types(1), Locals: 2, Code: one(ret)})), "?A +A .A ?B uncaught NullRef 3")
	runs(t, "P10: NoMethod ahead of NullRef", running(mainOf(nulled, invoke("E"), pop, ret), e), "?A +A .A ?E uncaught NoMethod 2")
	runs(t, "P10: static", running(mainOf(nulled, invoke("B"), pop, ret), classOf("B", "Object", api.Method{Name: "f", Static: true, Result: anInt, Stack: 1, Code: one(num(1), giving)})), "?A +A .A ?B uncaught NoMethod 2")
	runs(t, "P10: no class", running(mainOf(nulled, invoke("B"), pop, ret)), "?A +A .A ?B uncaught NoClass 2")
	self := own("g", anInt, op(api.Load), invoke("C"), giving)
	runs(t, "P10: it is given itself", running(mainOf(made("B"), methodOf(api.Invoke, "C", "g", anInt), show, ret), b, classOf("C", "Object", gives(3), self)), "?A +A .A ?B ?C +C .C +B .B 2 halted 9")
	// the same instruction, with objects of several classes
	ask := api.Method{Name: "ask", Static: true, Params: []api.Type{object("C")}, Locals: 1, Stack: 1, Code: one(op(api.Load), invoke("C"), show, ret)}
	asks := func(class string) []api.Instr {
		return one(made(class), methodOf(api.Call, "A", "ask", void, object("C")))
	}
	main := static("main", append(append(asks("C"), asks("L")...), append(asks("C"), ret)...)...)
	runs(t, "P10: asked again", running(classOf("A", "Object", main, ask), low, b, c, e), "?A +A .A ?C ?E +E .E +C .C 3 ?L ?B +B .B +L .L 2 3 halted 25")
}

func TestDeep(t *testing.T) {
	at := func(depth int, l ...api.Class) api.Script {
		s := running(l...)
		s.Depth = depth
		return s
	}
	again := mainOf(methodOf(api.Call, "A", "main", void), ret)
	for _, depth := range []int{1, 2, 7, api.MaxDepth} {
		runs(t, "P10: Call", at(depth, again), "?A +A .A uncaught Deep "+strconv.Itoa(depth))
	}
	b := classOf("B", "Object", own("f", void, op(api.Load), methodOf(api.Invoke, "B", "f", void), ret))
	for _, depth := range []int{2, 7, api.MaxDepth} {
		runs(t, "P10: Invoke", at(depth, mainOf(made("B"), methodOf(api.Invoke, "B", "f", void), ret), b), "?A +A .A ?B +B .B uncaught Deep "+strconv.Itoa(2*depth))
	}
	runs(t, "P10: NullRef comes first", at(1, mainOf(nulled, methodOf(api.Invoke, "B", "f", void), ret), b), "?A +A .A ?B uncaught NullRef 2")
	runs(t, "P10: NoMethod comes first", at(1, mainOf(methodOf(api.Call, "B", "f", void), ret), b), "?A +A .A ?B uncaught NoMethod 1")
	f := static("f", num(1), show, ret)
	call := methodOf(api.Call, "A", "f", void)
	runs(t, "P10: one behind the other", at(2, classOf("A", "Object", static("main", call, call, call, ret), f)), "?A +A .A 1 1 1 halted 13")
	runs(t, "P10: caught", at(1, classOf("A", "Object", catching(static("main", call, ret), 0, 1, "Deep", pop, num(4), show, ret), f)), "?A +A .A 4 halted 5")
	thrower := static("g", made("Arith"), throw)
	main := catching(static("main", methodOf(api.Call, "A", "g", void), ret), 0, 1, "Arith", pop, call, ret)
	runs(t, "P10: what was left is no more under way", at(2, classOf("A", "Object", main, thrower, f)), "?A +A .A 1 halted 9")
}
