package atrium_test

import (
	"math"
	"reflect"
	"slices"
	"strconv"
	"strings"
	"testing"

	"atrium/api"
	"atrium/atrium"
)

var (
	ret    = op(api.Return)
	giving = op(api.Give)
	pop    = op(api.Pop)
	show   = op(api.Print)
	throw  = op(api.Throw)
	nulled = op(api.PushNull)
	read   = op(api.Read)
)

func num(n int) api.Instr { return with(api.Push, n) }

func made(class string) api.Instr { return ofClass(api.New, class) }

func fieldOf(operation int, class, name string, t api.Type) api.Instr {
	return api.Instr{Op: operation, Ref: api.Ref{Class: class, Name: name, Type: t}}
}

func methodOf(operation int, class, name string, result api.Type, params ...api.Type) api.Instr {
	return api.Instr{Op: operation, Ref: api.Ref{Class: class, Name: name, Params: params, Type: result}}
}

// static: a method without parameters that gives nothing, with some room.
func static(name string, code ...api.Instr) api.Method {
	return api.Method{Name: name, Static: true, Locals: 4, Stack: 8, Code: code}
}

// own: one that is not static.
func own(name string, result api.Type, code ...api.Instr) api.Method {
	return api.Method{Name: name, Result: result, Locals: 4, Stack: 8, Code: code}
}

// starts: a start that prints a number.
func starts(n int) api.Method { return static("start", num(n), show, ret) }

// fails: a start that throws one of a class.
func fails(class string) api.Method { return static("start", made(class), throw) }

// catching: behind the method some more instructions, at which it goes on if a
// thing of that class is thrown in one of those between from and to.
func catching(m api.Method, from, to int, class string, more ...api.Instr) api.Method {
	at, caught := len(m.Code), class
	if class == "" {
		caught = "Throwable"
	}
	m.Code = append(slices.Clone(m.Code), more...)
	m.Handlers = append(slices.Clone(m.Handlers), api.Handler{From: from, To: to, At: at, Class: class})
	m.Frames = append(slices.Clone(m.Frames), frameAt(m, at, object(caught)))
	return m
}

// frameAt knows nothing of the locals.
func frameAt(m api.Method, at int, stack ...api.Type) api.Frame {
	return api.Frame{At: at, Locals: slices.Repeat([]api.Type{top}, m.Locals), Stack: stack}
}

// mainOf: the class A below Object with a main of these instructions.
func mainOf(code ...api.Instr) api.Class { return classOf("A", "Object", static("main", code...)) }

// tries: a main that does some things, each of which lays something on the
// stack or throws an Error: then the number behind it is printed, and it goes on.
func tries(all ...[]api.Instr) api.Class {
	m := static("main")
	for i, code := range all {
		from := len(m.Code)
		if i > 0 {
			m.Frames = append(m.Frames, frameAt(m, from))
		}
		m.Code = append(m.Code, code...)
		to := len(m.Code)
		m.Code = append(m.Code, pop, with(api.Goto, to+5))
		m = catching(m, from, to, "Error", pop, num(i+1), show)
	}
	m.Frames = append(m.Frames, frameAt(m, len(m.Code)))
	m.Code = append(m.Code, ret)
	return classOf("A", "Object", m)
}

func one(in ...api.Instr) []api.Instr { return in }

// classOf: with such fields and methods.
func classOf(name, super string, parts ...any) api.Class {
	c := api.Class{Name: name, Super: super}
	for _, p := range parts {
		switch p := p.(type) {
		case api.Field:
			c.Fields = append(c.Fields, p)
		case api.Method:
			c.Methods = append(c.Methods, p)
		}
	}
	return c
}

// entries: the classes as they lie in a repository.
func entries(classes ...api.Class) []api.Entry {
	var l []api.Entry
	for _, c := range classes {
		l = append(l, api.Entry{Name: c.Name, Bytes: rawBytes(c)})
	}
	return l
}

// running: a script with room for much.
func running(classes ...api.Class) api.Script {
	return api.Script{Entries: entries(classes...), Main: "A", Inputs: []int{5, -3}, Fuel: 500, Heap: 100, Depth: 10}
}

// story: ?A asked, +A started, .A ended, !A failed, what was printed; how it
// ended; how many were done.
func story(r api.Result) string {
	return strings.Join(append(events(r), ending(r)), " ")
}

func events(r api.Result) []string {
	var l []string
	for _, e := range r.Events {
		switch {
		case e.Kind == api.Printed && e.Class == "":
			l = append(l, strconv.Itoa(e.N))
		case e.Kind >= api.Asked && e.Kind <= api.Failed && e.N == 0:
			l = append(l, "  ?+.!"[e.Kind:e.Kind+1]+e.Class)
		default:
			l = append(l, "an event that may not be")
		}
	}
	return l
}

func ending(r api.Result) string {
	done := " " + strconv.Itoa(r.Done)
	switch {
	case r.Outcome == api.Halted && r.Class == "":
		return "halted" + done
	case r.Outcome == api.Spent && r.Class == "":
		return "spent" + done
	case r.Outcome == api.Uncaught:
		return "uncaught " + r.Class + done
	case r.Outcome == api.Unusable:
		return "unusable " + r.Class + done
	}
	return "an ending that may not be"
}

func runs(t *testing.T, why string, s api.Script, want string) {
	t.Helper()
	r, e := atrium.Run(s)
	if got := story(r); got != want || e != api.OK {
		t.Errorf("%s: Run = %s, %d, want %s", why, got, e, want)
	}
}

func TestScripts(t *testing.T) {
	for why, c := range map[string]struct {
		change func(s *api.Script)
		want   api.Errno
	}{
		"as it is":           {func(s *api.Script) {}, api.OK},
		"no fuel":            {func(s *api.Script) { s.Fuel = 0 }, api.OK},
		"most fuel":          {func(s *api.Script) { s.Fuel = api.MaxFuel }, api.OK},
		"too much fuel":      {func(s *api.Script) { s.Fuel = api.MaxFuel + 1 }, api.ErrScript},
		"less than no fuel":  {func(s *api.Script) { s.Fuel = -1 }, api.ErrScript},
		"the greatest fuel":  {func(s *api.Script) { s.Fuel = math.MaxInt }, api.ErrScript},
		"the least fuel":     {func(s *api.Script) { s.Fuel = math.MinInt }, api.ErrScript},
		"no heap":            {func(s *api.Script) { s.Heap = 0 }, api.OK},
		"most heap":          {func(s *api.Script) { s.Heap = api.MaxHeap }, api.OK},
		"too much heap":      {func(s *api.Script) { s.Heap = api.MaxHeap + 1 }, api.ErrScript},
		"less than no heap":  {func(s *api.Script) { s.Heap = -1 }, api.ErrScript},
		"least depth":        {func(s *api.Script) { s.Depth = 1 }, api.OK},
		"most depth":         {func(s *api.Script) { s.Depth = api.MaxDepth }, api.OK},
		"too much depth":     {func(s *api.Script) { s.Depth = api.MaxDepth + 1 }, api.ErrScript},
		"no depth":           {func(s *api.Script) { s.Depth = 0 }, api.ErrScript},
		"less than no depth": {func(s *api.Script) { s.Depth = -1 }, api.ErrScript},
		"no entries":         {func(s *api.Script) { s.Entries = nil }, api.OK},
		"most entries":       {func(s *api.Script) { s.Entries = make([]api.Entry, api.MaxEntries) }, api.OK},
		"too many entries":   {func(s *api.Script) { s.Entries = make([]api.Entry, api.MaxEntries+1) }, api.ErrScript},
		"many inputs":        {func(s *api.Script) { s.Inputs = make([]int, 1<<16) }, api.OK},
		"no inputs":          {func(s *api.Script) { s.Inputs = nil }, api.OK},
		"a long main":        {func(s *api.Script) { s.Main = strings.Repeat("a", 1<<16) }, api.OK},
	} {
		s := running(example())
		c.change(&s)
		r, e := atrium.Run(s)
		if e != c.want || e != api.OK && !reflect.DeepEqual(r, api.Result{}) || e == api.OK && r.Outcome == 0 {
			t.Errorf("P6: %s: Run = %v, %d, want the error %d", why, r, e, c.want)
		}
	}
}

func TestExamples(t *testing.T) {
	runs(t, "the document's example 1", running(example()), "?A +A .A 7 halted 3")
	two := catching(static("main", made("B"), pop, ret), 0, 2, "NoClass", pop, num(1), show, ret)
	runs(t, "the document's example 2", running(classOf("A", "Object", two)), "?A +A .A ?B 1 halted 5")
	gives := func(name string) api.Method {
		return api.Method{Name: name, Static: true, Stack: 1, Result: object("C"), Code: []api.Instr{made("B"), giving}}
	}
	three := classOf("D", "Object", gives("f"), gives("g"))
	runs(t, "the document's example 3", running(mainOf(made("B"), pop, made("D"), pop, ret), classOf("B", "Object"), three), "?A +A .A ?B +B .B ?D uncaught BadClass 3")
}

func TestMainClass(t *testing.T) {
	main := static("main", ret)
	for why, c := range map[string]struct {
		l    []api.Entry
		want string
	}{
		"it is not there":           {nil, "?A unusable NoClass 0"},
		"it is no class":            {[]api.Entry{{Name: "A", Bytes: "CLAS"}}, "?A unusable BadForm 0"},
		"it has no main":            {entries(classOf("A", "Object", static("Main", ret))), "?A unusable NoMethod 0"},
		"it has a main above":       {entries(classOf("A", "B"), classOf("B", "Object", main)), "?A ?B unusable NoMethod 0"},
		"its main is not static":    {entries(classOf("A", "Object", own("main", void, ret))), "?A unusable NoMethod 0"},
		"its main has a parameter":  {entries(classOf("A", "Object", api.Method{Name: "main", Static: true, Params: types(1), Locals: 1, Code: one(ret)})), "?A unusable NoMethod 0"},
		"its main gives something":  {entries(classOf("A", "Object", api.Method{Name: "main", Static: true, Result: anInt, Stack: 1, Code: one(num(1), giving)})), "?A unusable NoMethod 0"},
		"another main beside":       {entries(classOf("A", "Object", api.Method{Name: "main", Static: true, Result: anInt, Stack: 1, Code: one(num(1), giving)}, main)), "?A +A .A halted 1"},
		"no main, and a wrong one":  {entries(classOf("A", "Object", static("f", pop, ret))), "?A unusable NoMethod 0"},
		"a wrong main":              {entries(mainOf(pop, ret)), "?A uncaught BadClass 0"},
		"a method beside is wrong":  {entries(classOf("A", "Object", main, static("f", pop, ret))), "?A uncaught BadClass 0"},
		"a start":                   {entries(classOf("A", "Object", main, starts(4))), "?A +A 4 .A halted 4"},
		"its start throws an Error": {entries(classOf("A", "Object", main, fails("Bounds"))), "?A +A !A uncaught Bounds 2"},
		"its start throws another":  {entries(classOf("A", "Object", main, fails("Throwable"))), "?A +A !A uncaught BadInit 2"},
		"one above it fails":        {entries(classOf("A", "B", main), classOf("B", "Object", fails("Heap"))), "?A ?B +B !B uncaught Heap 2"},
		"one above it is wrong":     {entries(classOf("A", "B", main, starts(1)), classOf("B", "Object", static("f", pop))), "?A ?B uncaught BadClass 0"},
		"those above start first":   {entries(classOf("A", "B", main), classOf("B", "C", starts(2)), classOf("C", "Object", starts(3))), "?A ?B ?C +C 3 .C +B 2 .B +A .A halted 7"},
		"one above starts it":       {entries(classOf("A", "B", main, starts(1)), classOf("B", "Object", static("start", made("A"), pop, ret))), "?A ?B +B +A 1 .A .B halted 7"},
		"it has failed meanwhile":   {entries(classOf("A", "B", main, fails("Arith")), classOf("B", "Object", catching(static("start", made("A"), pop, ret), 0, 1, "", pop, ret))), "?A ?B +B +A !A .B uncaught NoClass 5"},
		"main is called once more":  {entries(classOf("A", "Object", main, static("start", methodOf(api.Call, "A", "main", void), ret))), "?A +A .A halted 4"},
		"its main throws":           {entries(mainOf(made("Throwable"), throw)), "?A +A .A uncaught Throwable 2"},
		"a class of its own thrown": {entries(mainOf(made("T"), throw), classOf("T", "Throwable")), "?A +A .A ?T +T .T uncaught T 2"},
	} {
		runs(t, "P9: "+why, api.Script{Entries: c.l, Main: "A", Fuel: 500, Heap: 100, Depth: 10}, c.want)
	}
	for name, want := range map[string]string{
		"":          "? unusable NoClass 0",
		"B":         "?B unusable NoClass 0",
		"a":         "?a unusable NoClass 0",
		"\xff \x00": "?\xff \x00 unusable NoClass 0",
		"Object":    "unusable NoMethod 0",
		"Throwable": "unusable NoMethod 0",
		"Deep":      "unusable NoMethod 0",
	} {
		s := running(example())
		s.Main = name
		runs(t, "P9: the main class "+strconv.Quote(name), s, want)
	}
}
