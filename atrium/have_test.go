package atrium_test

import (
	"testing"

	"atrium/api"
)

// takesFor: the class D, of which a method takes for granted that these are below those.
func takesFor(pairs ...api.Below) api.Class {
	d := classOf("D", "Object")
	for i, p := range pairs {
		d.Methods = append(d.Methods, static(letter(i), made(p.Class), fieldOf(api.PutStatic, "Q", "q", object(p.Above)), ret))
	}
	return d
}

func TestHaving(t *testing.T) {
	needed := tries(one(made("B")), one(made("B")))
	b := rawBytes(classOf("B", "Object"))
	other := rawBytes(classOf("B", "Throwable"))
	for why, c := range map[string]struct {
		l    []api.Entry
		want string
	}{
		"there is one":            {[]api.Entry{{Name: "B", Bytes: b}}, "?B +B .B halted 7"},
		"there is none":           {nil, "?B 1 2 halted 9"},
		"there are two":           {[]api.Entry{{Name: "B", Bytes: b}, {Name: "B", Bytes: b}}, "?B 1 2 halted 9"},
		"there are two others":    {[]api.Entry{{Name: "B", Bytes: other}, {Name: "B", Bytes: b}}, "?B 1 2 halted 9"},
		"one of two is no class":  {[]api.Entry{{Name: "B", Bytes: b}, {Name: "B"}}, "?B 1 2 halted 9"},
		"another entry has it":    {[]api.Entry{{Name: "C", Bytes: b}}, "?B 1 2 halted 9"},
		"another case":            {[]api.Entry{{Name: "b", Bytes: b}}, "?B 1 2 halted 9"},
		"it is no class":          {[]api.Entry{{Name: "B", Bytes: b + "\x00"}}, "?B 1 2 halted 9"},
		"it is nothing":           {[]api.Entry{{Name: "B"}}, "?B 1 2 halted 9"},
		"it is another class":     {[]api.Entry{{Name: "B", Bytes: rawBytes(classOf("C", "Object"))}}, "?B 1 2 halted 9"},
		"it is one that is there": {[]api.Entry{{Name: "B", Bytes: rawBytes(classOf("Object", "Object"))}}, "?B 1 2 halted 9"},
	} {
		s := running(needed)
		s.Entries = append(s.Entries, c.l...)
		runs(t, "P7: "+why, s, "?A +A .A "+c.want)
	}
}

// TestWhyNotHad: which error it is, and that it is the same one again.
func TestWhyNotHad(t *testing.T) {
	clash := classOf("C", "Object", own("f", void, ret))
	for why, c := range map[string]struct {
		l    []api.Entry
		asks string
		want string
	}{
		"none":                    {nil, "?B", "NoClass"},
		"two":                     {entries(classOf("B", "Object"), classOf("B", "Object")), "?B", "NoClass"},
		"no class":                {[]api.Entry{{Name: "B", Bytes: "CLAS"}}, "?B", "BadForm"},
		"another name":            {[]api.Entry{{Name: "B", Bytes: exampleBytes}}, "?B", "BadForm"},
		"one that is there":       {[]api.Entry{{Name: "B", Bytes: rawBytes(classOf("Error", "Object"))}}, "?B", "BadForm"},
		"none above":              {entries(classOf("B", "C")), "?B ?C", "NoClass"},
		"no class above":          {append(entries(classOf("B", "C")), api.Entry{Name: "C"}), "?B ?C", "BadForm"},
		"none two above":          {entries(classOf("B", "C"), classOf("C", "E")), "?B ?C ?E", "NoClass"},
		"itself above":            {entries(classOf("B", "B")), "?B", "Circular"},
		"a ring of two":           {entries(classOf("B", "C"), classOf("C", "B")), "?B ?C", "Circular"},
		"a ring of three":         {entries(classOf("B", "C"), classOf("C", "E"), classOf("E", "B")), "?B ?C ?E", "Circular"},
		"a ring above":            {entries(classOf("B", "C"), classOf("C", "E"), classOf("E", "C")), "?B ?C ?E", "Circular"},
		"static, not so above":    {entries(classOf("B", "C", static("f", ret)), clash), "?B ?C", "BadForm"},
		"not static, so above":    {entries(classOf("B", "C", own("f", void, ret)), classOf("C", "Object", static("f", ret))), "?B ?C", "BadForm"},
		"not so two above":        {entries(classOf("B", "E", static("f", ret)), clash, classOf("E", "C")), "?B ?E ?C", "BadForm"},
		"just the last method":    {entries(classOf("B", "C", static("e", ret), static("g", ret), static("f", ret)), clash), "?B ?C", "BadForm"},
		"a clash in one above":    {entries(classOf("B", "E"), clash, classOf("E", "C", static("f", ret))), "?B ?E ?C", "BadForm"},
		"no class, and no Super":  {[]api.Entry{{Name: "B", Bytes: rawBytes(classOf("B", ""))}}, "?B", "BadForm"},
		"another name, no Super":  {[]api.Entry{{Name: "B", Bytes: rawBytes(classOf("C", "X"))}}, "?B", "BadForm"},
		"a clash, but none above": {entries(classOf("B", "C", static("f", ret)), classOf("C", "X", own("f", void, ret))), "?B ?C ?X", "NoClass"},
	} {
		s := running(mainOf(made("B"), pop, ret))
		s.Entries = append(s.Entries, c.l...)
		runs(t, "P7: "+why, s, "?A +A .A "+c.asks+" uncaught "+c.want+" 1")
		s.Entries[0] = entries(classOf("A", "Object", catching(static("main", made("B"), pop, ret), 0, 1, "", pop, made("B"), pop, ret)))[0]
		runs(t, "P7: the second time: "+why, s, "?A +A .A "+c.asks+" uncaught "+c.want+" 3")
	}
}

// TestNoClash: another list of parameters, or another thing that it gives, is another method.
func TestNoClash(t *testing.T) {
	c := classOf("C", "Object", own("f", void, ret), static("g", ret))
	for why, b := range map[string]api.Class{
		"both static":        classOf("B", "C", static("g", ret)),
		"none static":        classOf("B", "C", own("f", void, ret)),
		"another result":     classOf("B", "C", api.Method{Name: "f", Static: true, Result: anInt, Stack: 1, Code: one(num(1), giving)}),
		"another parameter":  classOf("B", "C", api.Method{Name: "f", Static: true, Params: types(1), Locals: 1, Code: one(ret)}),
		"another name":       classOf("B", "C", static("F", ret)),
		"beside, not above":  classOf("B", "Object", static("f", ret), own("g", void, ret)),
		"a field, no method": classOf("B", "C", api.Field{Name: "f", Static: true, Type: anInt}),
	} {
		runs(t, "P7: "+why, running(mainOf(made("C"), pop, made("B"), pop, ret), b, c), "?A +A .A ?C +C .C ?B +B .B halted 5")
	}
}

// TestOrderOfHaving: asked for first to last; what was had stays there, though
// the one below it failed.
func TestOrderOfHaving(t *testing.T) {
	chain := []api.Class{classOf("B", "C"), classOf("C", "E"), classOf("E", "Throwable")}
	runs(t, "P7: Supers", running(append(chain, mainOf(made("B"), pop, made("C"), pop, made("E"), pop, ret))...), "?A +A .A ?B ?C ?E +E .E +C .C +B .B halted 7")
	runs(t, "P7: the other way round", running(append(chain, mainOf(made("E"), pop, made("C"), pop, made("B"), pop, ret))...), "?A +A .A ?E +E .E ?C +C .C ?B +B .B halted 7")
	clash := []api.Class{classOf("B", "C", static("f", ret)), classOf("C", "Object", own("f", void, ret))}
	runs(t, "P7: above one that failed", running(append(clash, tries(one(made("B")), one(made("C"))))...), "?A +A .A ?B ?C 1 +C .C halted 8")
	ring := []api.Class{classOf("B", "C"), classOf("C", "B")}
	runs(t, "P7: the others of a ring", running(append(ring, tries(one(made("B")), one(made("C")), one(made("B"))))...), "?A +A .A ?B ?C 1 2 3 halted 13")
	runs(t, "P7: below one that failed", running(tries(one(made("C")), one(made("B")), one(made("B"))), classOf("B", "C")), "?A +A .A ?C 1 ?B 2 3 halted 13")
	runs(t, "P7: a ring that is come upon later", running(append(ring, classOf("E", "B"), mainOf(made("E"), pop, ret))...), "?A +A .A ?E ?B ?C uncaught Circular 1")
}

func TestNeverAskedFor(t *testing.T) {
	names := []string{"Object", "Throwable", "Error", "NoClass", "BadForm", "Circular", "BadClass", "NoField", "NoMethod", "BadInit", "Arith", "NullRef", "BadCast", "Bounds", "BadSize", "Heap", "Deep"}
	for _, name := range names {
		b := classOf("B", name)
		runs(t, "P7: above a class: "+name, running(mainOf(made("B"), ofClass(api.Is, name), show, ret), b, classOf(name, "B", fails("Error"))), "?A +A .A ?B +B .B 1 halted 4")
		runs(t, "P7: itself: "+name, running(mainOf(made(name), ofClass(api.Is, name), show, ret)), "?A +A .A 1 halted 4")
	}
}

func TestGranted(t *testing.T) {
	below := func(class, above string) api.Below { return api.Below{Class: class, Above: above} }
	first := mainOf(made("D"), pop, made("B"), pop, ret)
	chain := []api.Class{classOf("B", "C"), classOf("C", "E"), classOf("E", "Heap")}
	for why, c := range map[string]struct {
		pairs []api.Below
		l     []api.Class
		want  string
	}{
		"the Super":               {[]api.Below{below("B", "C")}, chain, "?B ?C ?E +E .E +C .C +B .B halted 5"},
		"two above":               {[]api.Below{below("B", "E")}, chain, "?B ?C ?E +E .E +C .C +B .B halted 5"},
		"one that is there":       {[]api.Below{below("B", "Heap")}, chain, "?B ?C ?E +E .E +C .C +B .B halted 5"},
		"above that":              {[]api.Below{below("B", "Throwable"), below("B", "Error")}, chain, "?B ?C ?E +E .E +C .C +B .B halted 5"},
		"one beside":              {[]api.Below{below("B", "Deep")}, chain, "?B ?C ?E uncaught BadClass 3"},
		"one that is not there":   {[]api.Below{below("B", "X")}, chain, "?B ?C ?E uncaught BadClass 3"},
		"of one above":            {[]api.Below{below("C", "X")}, chain, "?B ?C ?E uncaught BadClass 3"},
		"the other way round":     {[]api.Below{below("C", "B")}, chain, "?B ?C ?E uncaught BadClass 3"},
		"of one that is not had":  {[]api.Below{below("X", "B"), below("Y", "X")}, chain, "?B ?C ?E +E .E +C .C +B .B halted 5"},
		"the last of several":     {[]api.Below{below("B", "C"), below("B", "E"), below("B", "X")}, chain, "?B ?C ?E uncaught BadClass 3"},
		"one of the wrong class":  {[]api.Below{below("B", "C"), below("B", "D")}, chain, "?B ?C ?E uncaught BadClass 3"},
		"a clash comes first":     {[]api.Below{below("B", "X")}, []api.Class{classOf("B", "C", static("f", ret)), classOf("C", "Object", own("f", void, ret))}, "?B ?C uncaught BadForm 3"},
		"what is above is had":    {[]api.Below{below("B", "X")}, []api.Class{classOf("B", "C")}, "?B ?C uncaught NoClass 3"},
		"what is above, Circular": {[]api.Below{below("B", "X")}, []api.Class{classOf("B", "B")}, "?B uncaught Circular 3"},
	} {
		runs(t, "P7: granted, of "+why, running(append(c.l, first, takesFor(c.pairs...))...), "?A +A .A ?D +D .D "+c.want)
	}
}

// TestGrantedStays: it counts for every later try, and for those below.
func TestGrantedStays(t *testing.T) {
	d := takesFor(api.Below{Class: "C", Above: "X"})
	l := []api.Class{d, classOf("B", "C"), classOf("C", "Object")}
	runs(t, "P7: those below it", running(append(l, tries(one(made("D")), one(made("B")), one(made("C")), one(made("B"))))...), "?A +A .A ?D +D .D ?B ?C 2 3 4 halted 16")
	catches := func(class string) api.Class {
		return classOf("A", "Object", catching(static("main", made("D"), pop, made("B"), pop, ret), 2, 3, class, pop, num(9), show, ret))
	}
	runs(t, "P7: it is a BadClass", running(append(l, catches("BadClass"))...), "?A +A .A ?D +D .D ?B ?C 9 halted 7")
	runs(t, "P7: it is no NoClass", running(append(l, catches("NoClass"))...), "?A +A .A ?D +D .D ?B ?C uncaught BadClass 3")
	other := takesFor(api.Below{Class: "B", Above: "C"})
	other.Name = "E"
	runs(t, "P7: two have taken something for granted", running(append(l, other, tries(one(made("E")), one(made("D")), one(made("B"))))...), "?A +A .A ?E +E .E ?D +D .D ?B ?C 3 halted 11")
}
