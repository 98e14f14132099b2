package atrium_test

import (
	"math"
	"strconv"
	"testing"

	"atrium/api"
)

// plainly runs a main of these instructions alone.
func plainly(t *testing.T, why string, want string, code ...api.Instr) {
	t.Helper()
	runs(t, "P10: "+why, running(mainOf(code...)), "?A +A .A "+want)
}

func TestReckoning(t *testing.T) {
	for _, c := range []struct{ op, a, b, want int }{
		{api.Add, 3, 4, 7},
		{api.Add, math.MaxInt, 1, math.MinInt},
		{api.Add, math.MinInt, math.MinInt, 0},
		{api.Sub, 3, 4, -1},
		{api.Sub, math.MinInt, 1, math.MaxInt},
		{api.Sub, 0, math.MinInt, math.MinInt},
		{api.Mul, 3, -4, -12},
		{api.Mul, math.MaxInt, 2, -2},
		{api.Mul, 1 << 32, 1 << 32, 0},
		{api.Mul, math.MinInt, -1, math.MinInt},
		{api.Div, 7, 2, 3},
		{api.Div, -7, 2, -3},
		{api.Div, 7, -2, -3},
		{api.Div, -7, -2, 3},
		{api.Div, 1, 2, 0},
		{api.Div, -1, 2, 0},
		{api.Div, 0, 5, 0},
		{api.Div, math.MinInt, -1, math.MinInt},
		{api.Div, math.MinInt, 2, math.MinInt / 2},
	} {
		plainly(t, "the operation "+strconv.Itoa(c.op), strconv.Itoa(c.want)+" halted 5", num(c.a), num(c.b), op(c.op), show, ret)
	}
	for _, n := range []int{0, 1, -1, math.MaxInt, math.MinInt} {
		plainly(t, "Div by 0", "uncaught Arith 3", num(n), num(0), op(api.Div), show, ret)
	}
}

func TestStackAndLocals(t *testing.T) {
	plainly(t, "Nop", "halted 3", op(api.Nop), op(api.Nop), ret)
	plainly(t, "Pop", "1 halted 5", num(1), num(2), pop, show, ret)
	plainly(t, "Dup", "2 2 1 halted 7", num(1), num(2), op(api.Dup), show, show, show, ret)
	plainly(t, "Load and Store", "8 7 8 halted 11", num(7), with(api.Store, 0), num(8), with(api.Store, 3), with(api.Load, 3), show, with(api.Load, 0), show, with(api.Load, 3), show, ret)
	plainly(t, "inputs", "5 -3 0 0 halted 9", read, show, read, show, read, show, read, show, ret)
	plainly(t, "numbers", strconv.Itoa(math.MaxInt)+" "+strconv.Itoa(math.MinInt)+" halted 8", num(math.MaxInt), num(math.MinInt), op(api.Nop), with(api.Store, 1), show, with(api.Load, 1), show, ret)
}

// goes: whether an instruction goes elsewhere: 1 is printed, or else 0.
func goes(ahead []api.Instr, operation int) api.Class {
	m := static("main", append(ahead, with(operation, len(ahead)+4), num(0), show, ret, num(1), show, ret)...)
	m.Frames = []api.Frame{frameAt(m, len(ahead)+1), frameAt(m, len(ahead)+4)}
	return classOf("A", "Object", m)
}

func TestGoing(t *testing.T) {
	for _, c := range []struct {
		ahead     []api.Instr
		operation int
		want      string
	}{
		{nil, api.Goto, "1"},
		{one(num(0)), api.IfZero, "1"},
		{one(num(1)), api.IfZero, "0"},
		{one(num(-1)), api.IfZero, "0"},
		{one(num(math.MinInt)), api.IfZero, "0"},
		{one(num(1), num(2)), api.IfLess, "1"},
		{one(num(2), num(1)), api.IfLess, "0"},
		{one(num(2), num(2)), api.IfLess, "0"},
		{one(num(-1), num(0)), api.IfLess, "1"},
		{one(num(math.MinInt), num(math.MaxInt)), api.IfLess, "1"},
		{one(num(math.MaxInt), num(math.MinInt)), api.IfLess, "0"},
		{one(nulled), api.IfNull, "1"},
		{one(made("Object")), api.IfNull, "0"},
		{one(num(0), op(api.NewInts)), api.IfNull, "0"},
		{one(num(2), op(api.NewInts)), api.IfNull, "0"},
		{one(nulled, ofClass(api.Cast, "B")), api.IfNull, "1"},
	} {
		runs(t, "P10: the operation "+strconv.Itoa(c.operation), running(goes(c.ahead, c.operation)), "?A +A .A "+c.want+" halted "+strconv.Itoa(len(c.ahead)+4))
	}
	loop := static("main", num(3), with(api.Store, 0), with(api.Load, 0), show, with(api.Load, 0), num(-1), op(api.Add), op(api.Dup), with(api.Store, 0), with(api.IfZero, 11), with(api.Goto, 2), ret)
	count := []api.Type{anInt, top, top, top}
	loop.Frames = []api.Frame{{At: 2, Locals: count}, {At: 11, Locals: count}}
	runs(t, "P10: back", running(classOf("A", "Object", loop)), "?A +A .A 3 2 1 halted 29")
}

func TestRows(t *testing.T) {
	row, size, get, put := op(api.NewInts), op(api.Size), op(api.GetAt), op(api.PutAt)
	plainly(t, "they are 0 at first", "0 0 halted 12", num(2), row, with(api.Store, 0), with(api.Load, 0), num(0), get, show, with(api.Load, 0), num(1), get, show, ret)
	plainly(t, "what is put is there, and nowhere else", "0 9 halted 16", num(2), row, with(api.Store, 0), with(api.Load, 0), num(1), num(9), put, with(api.Load, 0), num(0), get, show, with(api.Load, 0), num(1), get, show, ret)
	plainly(t, "two names of one row", "9 halted 12", num(2), row, op(api.Dup), with(api.Store, 0), num(0), num(9), put, with(api.Load, 0), num(0), get, show, ret)
	plainly(t, "two rows", "0 halted 15", num(2), row, with(api.Store, 0), num(2), row, with(api.Store, 1), with(api.Load, 0), num(0), num(9), put, with(api.Load, 1), num(0), get, show, ret)
	plainly(t, "Size", "3 0 halted 9", num(3), row, size, show, num(0), row, size, show, ret)
	plainly(t, "GetAt of null", "uncaught NullRef 3", nulled, num(-1), get, pop, ret)
	plainly(t, "PutAt of null", "uncaught NullRef 4", nulled, num(0), num(1), put, ret)
	plainly(t, "Size of null", "uncaught NullRef 2", nulled, size, pop, ret)
	for _, at := range []int{3, 4, -1, math.MaxInt, math.MinInt} {
		plainly(t, "GetAt "+strconv.Itoa(at), "uncaught Bounds 4", num(3), row, num(at), get, pop, ret)
		plainly(t, "PutAt "+strconv.Itoa(at), "uncaught Bounds 5", num(3), row, num(at), num(1), put, ret)
	}
	plainly(t, "of an empty row", "uncaught Bounds 4", num(0), row, num(0), get, pop, ret)
	for _, n := range []int{-1, math.MinInt} {
		plainly(t, "NewInts "+strconv.Itoa(n), "uncaught BadSize 2", num(n), row, pop, ret)
	}
}

func TestHeap(t *testing.T) {
	x, y := api.Field{Name: "x", Type: anInt}, api.Field{Name: "z", Type: anObject}
	b, c := classOf("B", "C", x, staticY), classOf("C", "Object", x, y)
	with := func(heap int, l ...api.Class) api.Script {
		s := running(append(l, b, c)...)
		s.Heap = heap
		return s
	}
	rows := func(n int) api.Class { return mainOf(num(n), op(api.NewInts), pop, ret) }
	had := "?A +A .A ?B ?C +C .C +B .B "
	runs(t, "P10: an object", with(4, mainOf(made("B"), pop, ret)), had+"halted 3")
	runs(t, "P10: an object that is too great", with(3, mainOf(made("B"), pop, ret)), had+"uncaught Heap 1")
	runs(t, "P10: two", with(8, mainOf(made("B"), pop, made("B"), pop, ret)), had+"halted 5")
	runs(t, "P10: one of two", with(7, mainOf(made("B"), pop, made("B"), pop, ret)), had+"uncaught Heap 3")
	runs(t, "P10: what is refused takes nothing", with(3, tries(one(made("B")), one(made("C")))), had+"1 halted 8")
	runs(t, "P10: the least object", with(1, mainOf(made("Object"), pop, ret)), "?A +A .A halted 3")
	runs(t, "P10: not even that", with(0, mainOf(made("Object"), pop, ret)), "?A +A .A uncaught Heap 1")
	runs(t, "P10: a row", with(6, rows(5)), "?A +A .A halted 4")
	runs(t, "P10: a row that is too great", with(5, rows(5)), "?A +A .A uncaught Heap 2")
	runs(t, "P10: an empty row", with(1, rows(0)), "?A +A .A halted 4")
	runs(t, "P10: not even that", with(0, rows(0)), "?A +A .A uncaught Heap 2")
	runs(t, "P10: BadSize comes first", with(0, rows(-1)), "?A +A .A uncaught BadSize 2")
	for _, n := range []int{api.MaxHeap, 1 << 40, math.MaxInt - 1, math.MaxInt} {
		runs(t, "P10: a row of "+strconv.Itoa(n), with(api.MaxHeap, rows(n)), "?A +A .A uncaught Heap 2")
	}
	runs(t, "P10: the greatest row", with(api.MaxHeap, rows(api.MaxHeap-1)), "?A +A .A halted 4")
	null := one(nulled, op(api.Size))
	runs(t, "P10: errors take nothing", with(0, tries(null, null, one(made("X")), one(num(1), num(0), op(api.Div)))), "?A +A .A 1 2 ?X 3 4 halted 21")
	runs(t, "P10: what a class keeps takes nothing", with(0, mainOf(getY("B"), show, ret)), had+"0 halted 3")
	runs(t, "P10: one that is thrown takes something", with(0, mainOf(made("Error"), throw)), "?A +A .A uncaught Heap 1")
}

func TestFields(t *testing.T) {
	x, r, o := api.Field{Name: "x", Type: anInt}, api.Field{Name: "r", Type: aRow}, api.Field{Name: "o", Type: object("X")}
	keep, look := with(api.Store, 0), with(api.Load, 0)
	get := func(class, name string, t api.Type) api.Instr { return fieldOf(api.GetField, class, name, t) }
	put := func(class, name string, t api.Type) api.Instr { return fieldOf(api.PutField, class, name, t) }
	b, c := classOf("B", "C", x), classOf("C", "Object", r, x, o)
	had := "?A +A .A ?B ?C +C .C +B .B "
	runs(t, "P10: at first", running(mainOf(made("B"), keep, look, get("B", "x", anInt), show, look, get("B", "o", object("X")), ofClass(api.Is, "Y"), show, look, get("B", "r", aRow), op(api.Size), pop, ret), b, c), had+"0 0 uncaught NullRef 12")
	runs(t, "P10: two of one name", running(mainOf(made("B"), keep, look, num(1), put("B", "x", anInt), look, num(2), put("C", "x", anInt), look, get("B", "x", anInt), show, look, get("C", "x", anInt), show, ret), b, c), had+"1 2 halted 15")
	runs(t, "P10: two objects", running(mainOf(made("B"), keep, made("B"), num(1), put("B", "x", anInt), look, get("B", "x", anInt), show, ret), b, c), had+"0 halted 9")
	runs(t, "P10: one object", running(mainOf(made("B"), op(api.Dup), num(1), put("B", "x", anInt), get("B", "x", anInt), show, ret), b, c), had+"1 halted 7")
	runs(t, "P10: of one above, in one below", running(mainOf(made("B"), op(api.Dup), num(3), op(api.NewInts), put("B", "r", aRow), get("C", "r", aRow), op(api.Size), show, ret), b, c), had+"3 halted 9")
	asked := "?A +A .A ?B ?C "
	for why, in := range map[string]api.Instr{
		"of another name":                 get("B", "y", anInt),
		"of another case":                 get("B", "X", anInt),
		"of another type":                 get("B", "r", anInt),
		"of another class as its type":    get("B", "o", object("Object")),
		"of one that stands further down": get("Object", "x", anInt),
	} {
		want := asked
		if in.Ref.Class == "Object" {
			want = "?A +A .A "
		}
		runs(t, "P10: a field "+why, running(mainOf(nulled, in, pop, ret), b, c), want+"uncaught NoField 2")
		in.Op = api.GetStatic
		runs(t, "P10: a static field "+why, running(mainOf(in, pop, ret), b, c), want+"uncaught NoField 1")
	}
	runs(t, "P10: NullRef", running(mainOf(nulled, get("B", "r", aRow), pop, ret), b, c), asked+"uncaught NullRef 2")
	runs(t, "P10: NullRef of PutField", running(mainOf(nulled, num(1), put("B", "x", anInt), ret), b, c), asked+"uncaught NullRef 3")
	runs(t, "P10: the class first", running(mainOf(nulled, get("X", "r", aRow), pop, ret)), "?A +A .A ?X uncaught NoClass 2")
	runs(t, "P10: the class first, PutField", running(mainOf(nulled, num(1), put("X", "x", anInt), ret)), "?A +A .A ?X uncaught NoClass 3")
}

func TestStatics(t *testing.T) {
	x := api.Field{Name: "x", Type: anInt}
	get := func(class, name string, t api.Type) api.Instr { return fieldOf(api.GetStatic, class, name, t) }
	c := classOf("C", "Object", staticY, api.Field{Name: "r", Static: true, Type: aRow})
	had := "?A +A .A ?B ?C +C .C "
	runs(t, "P10: one for all below", running(mainOf(num(4), putY("B"), getY("C"), show, getY("E"), show, ret), classOf("B", "C"), c, classOf("E", "C")), had+"4 ?E 4 halted 7")
	runs(t, "P10: at first", running(mainOf(getY("B"), show, get("B", "r", aRow), op(api.Size), pop, ret), classOf("B", "C"), c), had+"0 uncaught NullRef 4")
	runs(t, "P10: hidden by a static one", running(mainOf(num(4), putY("B"), getY("C"), show, ret), classOf("B", "C", staticY), c), had+"+B .B 0 halted 5")
	runs(t, "P10: hidden by one that is not static", running(mainOf(getY("B"), pop, ret), classOf("B", "C", api.Field{Name: "y", Type: anInt}), c), "?A +A .A ?B ?C uncaught NoField 1")
	runs(t, "P10: one of another type hides nothing", running(mainOf(getY("B"), show, ret), classOf("B", "C", api.Field{Name: "y", Type: aRow}), c), had+"0 halted 3")
	runs(t, "P10: not static", running(mainOf(num(1), fieldOf(api.PutStatic, "B", "x", anInt), ret), classOf("B", "C", x), c), "?A +A .A ?B ?C uncaught NoField 2")
	runs(t, "P10: GetField of a static one", running(mainOf(nulled, fieldOf(api.GetField, "B", "y", anInt), pop, ret), classOf("B", "C"), c), "?A +A .A ?B ?C uncaught NoField 2")
	runs(t, "P10: PutField of a static one", running(mainOf(nulled, num(1), fieldOf(api.PutField, "B", "y", anInt), ret), classOf("B", "C"), c), "?A +A .A ?B ?C uncaught NoField 3")
	hides := classOf("B", "C", staticY)
	above := classOf("C", "Object", api.Field{Name: "y", Type: anInt})
	runs(t, "P10: a static one hides one that is not", running(mainOf(nulled, fieldOf(api.GetField, "B", "y", anInt), pop, ret), hides, above), "?A +A .A ?B ?C uncaught NoField 2")
	runs(t, "P10: both, each by its class", running(mainOf(getY("B"), show, nulled, fieldOf(api.GetField, "C", "y", anInt), pop, ret), hides, above), "?A +A .A ?B ?C +C .C +B .B 0 uncaught NullRef 4")
}

func TestCastAndIs(t *testing.T) {
	c, b := classOf("C", "Object"), classOf("B", "C")
	had := "?A +A .A ?B ?C +C .C +B .B "
	for class, want := range map[string]string{"B": "1", "C": "1", "Object": "1", "Throwable": "0", "E": "?E 0"} {
		runs(t, "P10: Is "+class, running(mainOf(made("B"), ofClass(api.Is, class), show, ret), b, c, classOf("E", "B", fails("Error"))), had+want+" halted 4")
	}
	for class, want := range map[string]string{"B": "halted 4", "C": "halted 4", "Object": "halted 4", "Throwable": "uncaught BadCast 2", "E": "?E uncaught BadCast 2", "X": "?X uncaught NoClass 2"} {
		runs(t, "P10: Cast "+class, running(mainOf(made("B"), ofClass(api.Cast, class), pop, ret), b, c, classOf("E", "B", fails("Error"))), had+want)
	}
	plainly(t, "null", "0 halted 5", nulled, ofClass(api.Cast, "X"), ofClass(api.Is, "X"), show, ret)
	plainly(t, "null is no Object", "0 halted 4", nulled, ofClass(api.Is, "Object"), show, ret)
	plainly(t, "what is cast stays", "1 halted 5", made("Arith"), ofClass(api.Cast, "Error"), ofClass(api.Is, "Arith"), show, ret)
	plainly(t, "a class that cannot be had", "?X uncaught NoClass 2", made("Object"), ofClass(api.Is, "X"), pop, ret)
	// the same instruction, with an object, with null, and with an object again
	is := api.Method{Name: "is", Static: true, Params: []api.Type{anObject}, Locals: 1, Stack: 1, Code: one(op(api.Load), ofClass(api.Is, "B"), show, ret)}
	ask := func(in api.Instr) []api.Instr { return one(in, methodOf(api.Call, "A", "is", void, anObject)) }
	main := static("main", append(append(append(ask(nulled), ask(made("B"))...), append(ask(nulled), ask(made("C"))...)...), ret)...)
	runs(t, "P10: asked again", running(classOf("A", "Object", main, is), b, c), "?A +A .A 0 ?B ?C +C .C +B .B 1 0 0 halted 25")
}
