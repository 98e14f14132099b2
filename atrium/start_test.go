package atrium_test

import (
	"testing"

	"atrium/api"
)

var staticY = api.Field{Name: "y", Static: true, Type: anInt}

func getY(class string) api.Instr { return fieldOf(api.GetStatic, class, "y", anInt) }

func putY(class string) api.Instr { return fieldOf(api.PutStatic, class, "y", anInt) }

// TestWhatStarts: what an instruction has started, and what it leaves as it is.
func TestWhatStarts(t *testing.T) {
	b := classOf("B", "C", starts(2), static("g", ret))
	c := classOf("C", "Object", starts(3), staticY, api.Field{Name: "x", Type: anInt}, static("f", num(7), show, ret), own("h", void, ret))
	for why, x := range map[string]struct {
		code []api.Instr
		want string
	}{
		"New":                         {one(made("B"), pop), "+C 3 .C +B 2 .B halted 9"},
		"GetStatic":                   {one(getY("B"), pop), "+C 3 .C halted 6"},
		"PutStatic":                   {one(num(1), putY("B")), "+C 3 .C halted 6"},
		"Call of a method above":      {one(methodOf(api.Call, "B", "f", void)), "+C 3 .C 7 halted 8"},
		"Call":                        {one(methodOf(api.Call, "B", "g", void)), "+C 3 .C +B 2 .B halted 9"},
		"Invoke":                      {one(nulled, methodOf(api.Invoke, "B", "h", void)), "uncaught NullRef 2"},
		"GetField":                    {one(nulled, fieldOf(api.GetField, "B", "x", anInt), pop), "uncaught NullRef 2"},
		"PutField":                    {one(nulled, num(1), fieldOf(api.PutField, "B", "x", anInt)), "uncaught NullRef 3"},
		"Cast":                        {one(made("Object"), ofClass(api.Cast, "B"), pop), "uncaught BadCast 2"},
		"Is":                          {one(made("Object"), ofClass(api.Is, "B"), pop), "halted 4"},
		"a field that is not there":   {one(fieldOf(api.GetStatic, "B", "z", anInt), pop), "uncaught NoField 1"},
		"a field that is not static":  {one(fieldOf(api.GetStatic, "B", "x", anInt), pop), "uncaught NoField 1"},
		"a method that is not there":  {one(methodOf(api.Call, "B", "k", void)), "uncaught NoMethod 1"},
		"a method that is not static": {one(methodOf(api.Call, "B", "h", void)), "uncaught NoMethod 1"},
		"New, twice":                  {one(made("B"), pop, made("B"), pop), "+C 3 .C +B 2 .B halted 11"},
	} {
		code := append(x.code, ret)
		runs(t, "P8: "+why, running(mainOf(code...), b, c), "?A +A .A ?B ?C "+x.want)
	}
}

// TestStartMethod: just a method of the class itself, static, without parameters, that gives nothing.
func TestStartMethod(t *testing.T) {
	inherited := classOf("C", "Object", starts(3))
	gives := api.Method{Name: "start", Static: true, Result: anInt, Stack: 1, Code: one(num(1), giving)}
	takes := api.Method{Name: "start", Static: true, Params: types(1), Locals: 1, Code: one(ret)}
	for why, c := range map[string]struct {
		b    api.Class
		want string
	}{
		"none":            {classOf("B", "Object"), "?B +B .B halted 3"},
		"one above":       {classOf("B", "C"), "?B ?C +C 3 .C +B .B halted 6"},
		"not static":      {classOf("B", "Object", own("start", void, num(1), show, ret)), "?B +B .B halted 3"},
		"it gives":        {classOf("B", "Object", gives), "?B +B .B halted 3"},
		"it takes":        {classOf("B", "Object", takes), "?B +B .B halted 3"},
		"another name":    {classOf("B", "Object", static("Start", num(1), show, ret)), "?B +B .B halted 3"},
		"among them":      {classOf("B", "Object", gives, takes, starts(5), static("f", ret)), "?B +B 5 .B halted 6"},
		"one that throws": {classOf("B", "Object", fails("Arith")), "?B +B !B uncaught Arith 3"},
	} {
		runs(t, "P8: a start: "+why, running(mainOf(made("B"), pop, ret), c.b, inherited), "?A +A .A "+c.want)
	}
	calls := mainOf(methodOf(api.Call, "C", "start", void), methodOf(api.Call, "C", "start", void), ret)
	runs(t, "P8: a start that is called", running(calls, inherited), "?A +A .A ?C +C 3 .C 3 3 halted 12")
}

// TestDoneAnew: what an instruction takes lies there still behind the start, and
// it sees what the start has done.
func TestDoneAnew(t *testing.T) {
	b := classOf("B", "Object", staticY, static("start", num(4), putY("B"), ret),
		api.Method{Name: "less", Static: true, Params: types(2), Result: anInt, Locals: 2, Stack: 2, Code: one(op(api.Load), with(api.Load, 1), op(api.Sub), giving)})
	runs(t, "P8: GetStatic", running(mainOf(getY("B"), show, ret), b), "?A +A .A ?B +B .B 4 halted 6")
	runs(t, "P8: PutStatic", running(mainOf(num(9), putY("B"), getY("B"), show, ret), b), "?A +A .A ?B +B .B 9 halted 8")
	runs(t, "P8: Call", running(mainOf(num(9), num(2), methodOf(api.Call, "B", "less", anInt, anInt, anInt), show, ret), b), "?A +A .A ?B +B .B 7 halted 12")
	rows := classOf("B", "Object", static("start", num(3), op(api.NewInts), pop, ret))
	s := running(mainOf(made("B"), pop, ret), rows)
	s.Heap = 5
	runs(t, "P8: New, with room behind the start", s, "?A +A .A ?B +B .B halted 7")
	s.Heap = 4
	runs(t, "P8: New, without room behind the start", s, "?A +A .A ?B +B .B uncaught Heap 5")
	reads := classOf("B", "Object", static("start", read, show, ret))
	runs(t, "P8: inputs", running(mainOf(read, show, made("B"), pop, read, show, ret), reads), "?A +A .A 5 ?B +B -3 .B 0 halted 10")
}

func TestFailedStart(t *testing.T) {
	twice := tries(one(made("B")), one(made("B")))
	throws := func(c string, more ...api.Class) api.Script {
		return running(append(more, mainOf(made("B"), pop, ret), classOf("B", "Object", fails(c)))...)
	}
	runs(t, "P8: below Error", throws("Bounds"), "?A +A .A ?B +B !B uncaught Bounds 3")
	runs(t, "P8: Error itself", throws("Error"), "?A +A .A ?B +B !B uncaught Error 3")
	runs(t, "P8: Throwable", throws("Throwable"), "?A +A .A ?B +B !B uncaught BadInit 3")
	runs(t, "P8: one of its own below Throwable", throws("T", classOf("T", "Throwable")), "?A +A .A ?B +B ?T +T .T !B uncaught BadInit 3")
	runs(t, "P8: one of its own below Error", throws("T", classOf("T", "Heap")), "?A +A .A ?B +B ?T +T .T !B uncaught T 3")
	runs(t, "P8: what its start needs", throws("X"), "?A +A .A ?B +B ?X !B uncaught NoClass 2")
	runs(t, "P8: through a method", running(mainOf(made("B"), pop, ret), classOf("B", "Object", static("start", methodOf(api.Call, "B", "f", void), ret), static("f", made("Throwable"), throw))), "?A +A .A ?B +B !B uncaught BadInit 4")
	runs(t, "P8: what is caught in it", running(mainOf(made("B"), pop, ret), classOf("B", "Object", catching(fails("Arith"), 0, 2, "Arith", pop, ret))), "?A +A .A ?B +B .B halted 7")
	runs(t, "P8: again", running(twice, classOf("B", "Object", fails("Arith"))), "?A +A .A ?B +B !B 1 2 halted 11")
	runs(t, "P8: again it is NoClass", running(classOf("A", "Object", catching(static("main", made("B"), pop, ret), 0, 1, "Arith", pop, made("B"), pop, ret)), classOf("B", "Object", fails("Arith"))), "?A +A .A ?B +B !B uncaught NoClass 5")
	runs(t, "P8: nested", running(mainOf(made("B"), pop, ret), classOf("B", "Object", static("start", made("C"), pop, ret)), classOf("C", "Object", fails("Throwable"))), "?A +A .A ?B +B ?C +C !C !B uncaught BadInit 4")
	runs(t, "P8: what a class does beside", running(tries(one(made("B")), one(getY("B")), one(num(1), putY("B"), num(1)), one(methodOf(api.Call, "B", "f", anInt)), one(made("Object"), ofClass(api.Is, "B")), one(nulled, fieldOf(api.GetField, "B", "x", anInt))),
		classOf("B", "Object", staticY, api.Field{Name: "x", Type: anInt}, fails("Arith"), api.Method{Name: "f", Static: true, Result: anInt, Stack: 1, Code: one(num(1), giving)})), "?A +A .A ?B +B !B 1 2 3 4 6 halted 29")
}

// TestObjectsOfFailed: an object that was made in a start that failed does as others do.
func TestObjectsOfFailed(t *testing.T) {
	q := api.Field{Name: "q", Static: true, Type: object("B")}
	b := classOf("B", "Object", own("f", anInt, num(6), giving), static("start", made("B"), fieldOf(api.PutStatic, "A", "q", object("B")), made("Arith"), throw))
	main := catching(static("main", made("B"), pop, ret), 0, 1, "Arith", pop, fieldOf(api.GetStatic, "A", "q", object("B")), methodOf(api.Invoke, "B", "f", anInt), show, made("B"), pop, ret)
	runs(t, "P10: Invoke starts nothing", running(classOf("A", "Object", q, main), b), "?A +A .A ?B +B !B 6 uncaught NoClass 12")
}

func TestFailedAbove(t *testing.T) {
	c := classOf("C", "Object", fails("Arith"))
	b, e := classOf("B", "C", starts(2)), classOf("E", "C", starts(4))
	runs(t, "P8: above", running(tries(one(made("B")), one(made("B")), one(made("C")), one(made("E"))), b, c, e), "?A +A .A ?B ?C +C !C 1 2 3 ?E 4 halted 19")
	runs(t, "P8: below one that started", running(tries(one(made("B")), one(made("E")), one(made("B"))), classOf("B", "C", fails("Arith")), classOf("C", "Object", starts(3)), classOf("E", "B", starts(4))), "?A +A .A ?B ?C +C 3 .C +B !B 1 ?E 2 3 halted 18")
	between := classOf("C", "Object", static("start", made("B"), pop, made("Arith"), throw))
	runs(t, "P8: started while the one above was starting", running(tries(one(made("C")), one(made("B")), one(made("E"))), classOf("B", "C"), between, classOf("E", "B", starts(4))), "?A +A .A ?C +C ?B +B .B !C 1 ?E 3 halted 16")
}

func TestUnsoundClass(t *testing.T) {
	b := classOf("B", "Object", starts(2), static("f", pop, ret))
	runs(t, "P8: wrong, then failed", running(tries(one(made("B")), one(made("B"))), b), "?A +A .A ?B 1 2 halted 9")
	runs(t, "P8: it is a BadClass", running(mainOf(made("B"), pop, ret), b), "?A +A .A ?B uncaught BadClass 1")
	again := classOf("A", "Object", catching(static("main", made("B"), pop, ret), 0, 1, "BadClass", pop, made("B"), pop, ret))
	runs(t, "P8: then a NoClass", running(again, b), "?A +A .A ?B uncaught NoClass 3")
	runs(t, "P8: above", running(mainOf(made("C"), pop, ret), b, classOf("C", "B", starts(3))), "?A +A .A ?C ?B uncaught BadClass 1")
	runs(t, "P8: below", running(mainOf(made("B"), pop, ret), classOf("B", "C", static("f", pop)), classOf("C", "Object", starts(3))), "?A +A .A ?B ?C +C 3 .C uncaught BadClass 4")
	runs(t, "P8: not looked at ahead of its start", running(mainOf(made("Object"), ofClass(api.Is, "B"), show, nulled, methodOf(api.Invoke, "B", "g", void), ret), classOf("B", "Object", static("f", pop), own("g", void, ret))), "?A +A .A ?B 0 uncaught NullRef 5")
	runs(t, "P8: an inherited method of a sound class", running(mainOf(methodOf(api.Call, "B", "f", void), ret), classOf("B", "C", static("g", pop)), classOf("C", "Object", static("f", num(1), show, ret))), "?A +A .A ?B ?C +C .C 1 halted 5")
}

// TestGrantedOfThose: what is taken for granted of classes that are there counts at once.
func TestGrantedOfThose(t *testing.T) {
	below := func(class, above string) api.Below { return api.Below{Class: class, Above: above} }
	chain := []api.Class{classOf("B", "C"), classOf("C", "E"), classOf("E", "Heap"), mainOf(made("B"), pop, made("D"), pop, ret)}
	for why, c := range map[string]struct {
		pairs []api.Below
		want  string
	}{
		"the Super":             {[]api.Below{below("B", "C")}, "?D +D .D halted 5"},
		"two above":             {[]api.Below{below("B", "E"), below("C", "Throwable"), below("B", "Object")}, "?D +D .D halted 5"},
		"one that is not there": {[]api.Below{below("B", "X")}, "?D uncaught BadClass 3"},
		"the other way round":   {[]api.Below{below("C", "B")}, "?D uncaught BadClass 3"},
		"the last of several":   {[]api.Below{below("B", "C"), below("C", "E"), below("E", "Deep")}, "?D uncaught BadClass 3"},
		"itself":                {[]api.Below{below("D", "E")}, "?D uncaught BadClass 3"},
		"the main class":        {[]api.Below{below("A", "Error")}, "?D uncaught BadClass 3"},
	} {
		runs(t, "P8: granted, of "+why, running(append(chain, takesFor(c.pairs...))...), "?A +A .A ?B ?C ?E +E .E +C .C +B .B "+c.want)
	}
	far := takesFor(below("D", "Throwable"), below("D", "Error"), below("D", "Heap"))
	far.Super = "Heap"
	runs(t, "P8: of itself, and far above", running(mainOf(made("D"), pop, ret), far), "?A +A .A ?D +D .D halted 3")
	far = takesFor(below("D", "Arith"))
	far.Super = "Error"
	runs(t, "P8: of itself, and not so", running(mainOf(made("D"), pop, ret), far), "?A +A .A ?D uncaught BadClass 1")
}

// TestNotRemembered: of a class that is wrong nothing is.
func TestNotRemembered(t *testing.T) {
	wrong := takesFor(api.Below{Class: "B", Above: "X"})
	wrong.Methods = append(wrong.Methods, static("z", pop))
	runs(t, "P8: a wrong method", running(tries(one(made("D")), one(made("B"))), wrong, classOf("B", "Object")), "?A +A .A ?D 1 ?B +B .B halted 8")
	untrue := takesFor(api.Below{Class: "B", Above: "X"}, api.Below{Class: "A", Above: "X"}, api.Below{Class: "C", Above: "X"})
	runs(t, "P8: something is not so", running(tries(one(made("D")), one(made("B")), one(made("C"))), untrue, classOf("B", "Object"), classOf("C", "Object")), "?A +A .A ?D 1 ?B +B .B ?C +C .C halted 11")
	unstarted := takesFor(api.Below{Class: "B", Above: "X"})
	runs(t, "P8: it has not started", running(mainOf(made("Object"), ofClass(api.Is, "D"), show, made("B"), pop, ret), unstarted, classOf("B", "Object")), "?A +A .A ?D 0 ?B +B .B halted 6")
	failed := takesFor(api.Below{Class: "B", Above: "X"})
	failed.Methods = append(failed.Methods, fails("Arith"))
	runs(t, "P8: but of one whose start has thrown", running(tries(one(made("D")), one(made("B"))), failed, classOf("B", "Object")), "?A +A .A ?D +D !D 1 ?B 2 halted 11")
}

func TestRingOfStarts(t *testing.T) {
	b := classOf("B", "Object", staticY, static("start", getY("C"), num(1), op(api.Add), putY("B"), ret))
	c := classOf("C", "Object", staticY, static("start", getY("B"), num(10), op(api.Add), putY("C"), ret))
	runs(t, "P8: B first", running(mainOf(getY("B"), show, getY("C"), show, ret), b, c), "?A +A .A ?B +B ?C +C .C .B 11 10 halted 15")
	runs(t, "P8: C first", running(mainOf(getY("C"), show, getY("B"), show, ret), b, c), "?A +A .A ?C +C ?B +B .B .C 11 1 halted 15")
	self := classOf("B", "Object", static("start", made("B"), pop, num(8), show, ret))
	runs(t, "P8: itself", running(mainOf(made("B"), pop, ret), self), "?A +A .A ?B +B 8 .B halted 8")
	down := classOf("C", "Object", static("start", made("B"), pop, num(3), show, ret))
	runs(t, "P8: one below", running(mainOf(made("C"), pop, ret), down, classOf("B", "C", starts(2))), "?A +A .A ?C +C ?B +B 2 .B 3 .C halted 11")
	runs(t, "P8: the one that is needed, by the one above", running(mainOf(made("B"), pop, ret), down, classOf("B", "C", starts(2))), "?A +A .A ?B ?C +C +B 2 .B 3 .C halted 11")
	lost := classOf("C", "Object", catching(static("start", made("B"), pop, ret), 0, 1, "", pop, ret))
	runs(t, "P8: the one that is needed fails in the one above", running(mainOf(made("B"), pop, ret), lost, classOf("B", "C", fails("Arith"))), "?A +A .A ?B ?C +C +B !B .C uncaught NoClass 6")
}

func TestDeepStarts(t *testing.T) {
	at := func(depth int, l ...api.Class) api.Script {
		s := running(l...)
		s.Depth = depth
		return s
	}
	b, c := classOf("B", "Object", static("start", made("C"), pop, ret)), classOf("C", "Object", starts(3))
	main := mainOf(made("B"), pop, ret)
	runs(t, "P11: just enough room", at(3, main, b, c), "?A +A .A ?B +B ?C +C 3 .C .B halted 9")
	runs(t, "P11: no room for the inner one", at(2, main, b, c), "?A +A .A ?B +B ?C +C !C !B uncaught Deep 2")
	runs(t, "P11: no room at all", at(1, main, b, c), "?A +A .A ?B +B !B uncaught Deep 1")
	runs(t, "P11: no start, no room needed", at(1, mainOf(made("E"), pop, ret), classOf("E", "Object")), "?A +A .A ?E +E .E halted 3")
	runs(t, "P11: room for main's own start", at(1, classOf("A", "C", static("main", ret), starts(1)), c), "?A ?C +C 3 .C +A 1 .A halted 7")
	runs(t, "P11: it has failed", at(1, tries(one(made("C")), one(made("C"))), c), "?A +A .A ?C +C !C 1 2 halted 9")
	runs(t, "P11: then it is a NoClass", at(1, classOf("A", "Object", catching(static("main", made("C"), pop, ret), 0, 1, "Deep", pop, made("C"), pop, ret)), c), "?A +A .A ?C +C !C uncaught NoClass 3")
	runs(t, "P11: above the one that is needed", at(1, mainOf(made("E"), pop, ret), c, classOf("E", "C")), "?A +A .A ?E ?C +C !C uncaught Deep 1")
	runs(t, "P11: wrong is told first", at(1, mainOf(made("E"), pop, ret), classOf("E", "Object", starts(1), static("f", pop))), "?A +A .A ?E uncaught BadClass 1")
	call := mainOf(methodOf(api.Call, "E", "f", void), ret)
	e := classOf("E", "Object", starts(5), static("f", num(6), show, ret))
	runs(t, "P11: a Call behind its start", at(2, call, e), "?A +A .A ?E +E 5 .E 6 halted 8")
	runs(t, "P11: a Call whose start has no room", at(1, call, e), "?A +A .A ?E +E !E uncaught Deep 1")
	plain := classOf("E", "Object", static("f", num(6), show, ret))
	runs(t, "P11: a Call that has no room itself", at(1, call, plain), "?A +A .A ?E +E .E uncaught Deep 1")
}
