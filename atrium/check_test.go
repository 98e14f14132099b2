package atrium_test

import (
	"math/rand"
	"reflect"
	"slices"
	"testing"

	"atrium/api"
	"atrium/atrium"
)

// How one type may fit another one.
const (
	never   = 0
	known   = 1
	granted = 2
)

// fitting: of a class A below S, what fits what. What is not listed never does.
func fitting() map[[2]api.Type]int {
	s, b, c := object("S"), object("B"), object("C")
	failure, arith, bounds := object("Error"), object("Arith"), object("Bounds")
	fit := map[[2]api.Type]int{
		{anA, s}: known, {anA, b}: granted, {anA, c}: granted,
		{s, anA}: granted, {s, b}: granted, {s, c}: granted,
		{b, anA}: granted, {b, s}: granted, {b, c}: granted,
		{c, anA}: granted, {c, s}: granted, {c, b}: granted,
		{arith, failure}: known, {arith, aThrowable}: known,
		{bounds, failure}: known, {bounds, aThrowable}: known,
		{failure, aThrowable}: known,
		{null, aRow}:          known,
	}
	own := []api.Type{anA, s, b, c}
	there := []api.Type{anObject, aThrowable, failure, arith, bounds}
	for _, t := range append(own, there...) {
		fit[[2]api.Type{null, t}] = known
		fit[[2]api.Type{t, anObject}] = known
	}
	for _, t := range own {
		for _, above := range there[1:] {
			fit[[2]api.Type{t, above}] = granted
		}
	}
	for _, t := range fitted() {
		fit[[2]api.Type{t, t}] = known
	}
	return fit
}

func fitted() []api.Type {
	return []api.Type{
		anInt, aRow, null, anA, object("S"), aB, object("C"),
		anObject, aThrowable, object("Error"), object("Arith"), object("Bounds"),
	}
}

// meet: a class of one method in which these locals and this stack meet a frame,
// by going on from 0 to 1, or by going elsewhere.
func meet(in api.Instr, locals, stack, otherLocals, otherStack []api.Type) api.Class {
	return api.Class{Name: "A", Super: "S", Methods: []api.Method{{
		Name: "f", Static: true, Params: types(len(locals)), Locals: len(locals), Stack: 3,
		Code: []api.Instr{with(api.Goto, 0), in, op(api.Return)},
		Frames: []api.Frame{
			{At: 0, Locals: types(len(locals))},
			{At: 1, Locals: locals, Stack: stack},
			{At: 2, Locals: otherLocals, Stack: otherStack},
		},
	}}}
}

func TestFits(t *testing.T) {
	want := fitting()
	for _, a := range fitted() {
		for _, b := range fitted() {
			why := typeText(a) + " against " + typeText(b)
			fit := want[[2]api.Type{a, b}]
			one, other, number := []api.Type{a}, []api.Type{b}, []api.Type{anInt}
			meets(t, why+", a local", fit, meet(op(api.Nop), one, nil, other, nil), a, b, 2)
			meets(t, why+", a local that is taken along", fit, meet(with(api.Goto, 2), one, nil, other, nil), a, b, 1)
			meets(t, why+", the stack", fit, meet(op(api.Nop), number, one, number, other), a, b, 2)
			meets(t, why+", the stack that is taken along", fit, meet(with(api.Goto, 2), number, one, number, other), a, b, 1)
			both := append(one, anInt)
			meets(t, why+", deeper", fit, meet(op(api.Nop), both, both, append(other, anInt), append(other, anInt)), a, b, 2)
		}
	}
}

func meets(t *testing.T, why string, fit int, c api.Class, a, b api.Type, at int) {
	t.Helper()
	switch fit {
	case never:
		unsound(t, why, c, 0, at)
	case known:
		sound(t, why, c)
	case granted:
		sound(t, why, c, api.Below{Class: a.Class, Above: b.Class})
	}
}

// TestTop: any local fits Top, Top fits nothing else, and it never lies on a stack.
func TestTop(t *testing.T) {
	number, anything := []api.Type{anInt}, []api.Type{top}
	for _, a := range append(fitted(), top) {
		one := []api.Type{a}
		sound(t, "a local fits Top", meet(op(api.Nop), one, nil, anything, nil))
		sound(t, "a local fits Top elsewhere", meet(with(api.Goto, 2), one, nil, anything, nil))
		if a != top {
			unsound(t, "Top fits no other", meet(op(api.Nop), anything, nil, one, nil), 0, 2)
			unsound(t, "Top fits no other elsewhere", meet(with(api.Goto, 2), anything, nil, one, nil), 0, 1)
			unsound(t, "a stack against Top", meet(op(api.Nop), number, one, number, anything), 0, 2)
			unsound(t, "a stack against Top elsewhere", meet(with(api.Goto, 2), number, one, number, anything), 0, 1)
		}
	}
	unsound(t, "Top on the stack of a frame", meet(op(api.Nop), number, anything, number, number), 0, 1)
	unsound(t, "Top on a stack that nothing comes to", meet(op(api.Return), number, nil, number, anything), 0, 2)
	unsound(t, "Top deeper on a stack", meet(op(api.Return), number, nil, number, []api.Type{top, anInt}), 0, 2)
}

func TestDepthsMeet(t *testing.T) {
	number := []api.Type{anInt}
	for have := range 4 {
		for want := range 4 {
			on := meet(op(api.Nop), number, types(have), number, types(want))
			elsewhere := meet(with(api.Goto, 2), number, types(have), number, types(want))
			if have == want {
				sound(t, "as many", on)
				sound(t, "as many elsewhere", elsewhere)
				continue
			}
			unsound(t, "not as many", on, 0, 2)
			unsound(t, "not as many elsewhere", elsewhere, 0, 1)
		}
	}
}

// named: a class of a name and a Super, of which one local meets another one.
func named(name, super string, have, want string) api.Class {
	c := meet(op(api.Nop), []api.Type{object(have)}, nil, []api.Type{object(want)}, nil)
	c.Name, c.Super = name, super
	return c
}

// TestNamedAsOneThatIsThere: such a class stands where that one stands, not below its Super.
func TestNamedAsOneThatIsThere(t *testing.T) {
	sound(t, "Arith below Error", named("Arith", "S", "Arith", "Error"))
	sound(t, "Arith below Throwable", named("Arith", "S", "Arith", "Throwable"))
	unsound(t, "Arith below its Super", named("Arith", "S", "Arith", "S"), 0, 2)
	unsound(t, "Object below its Super", named("Object", "S", "Object", "S"), 0, 2)
	unsound(t, "Error below its Super that is there", named("Error", "Arith", "Error", "Arith"), 0, 2)
	sound(t, "another one below it", named("Arith", "S", "B", "Arith"), api.Below{Class: "B", Above: "Arith"})
	own := api.Class{Name: "Deep", Super: "S", Methods: []api.Method{{Name: "f", Locals: 1, Stack: 1, Code: []api.Instr{op(api.Load), op(api.Throw)}}}}
	sound(t, "the object itself is a Deep", own)
	own.Methods[0].Code[1] = ofField(api.PutStatic, "B", object("S"))
	unsound(t, "the object itself is no S", own, 0, 1)
}

// TestSuperOfTheOneChecked: just its Super is known, not what stands above that.
func TestSuperOfTheOneChecked(t *testing.T) {
	sound(t, "its Super", named("A", "Error", "A", "Error"))
	sound(t, "above its Super", named("A", "Error", "A", "Throwable"), api.Below{Class: "A", Above: "Throwable"})
	sound(t, "below its Super", named("A", "Error", "A", "Arith"), api.Below{Class: "A", Above: "Arith"})
	sound(t, "its Super is not below it", named("A", "S", "S", "A"), api.Below{Class: "S", Above: "A"})
	sound(t, "another class below its Super", named("A", "S", "B", "S"), api.Below{Class: "B", Above: "S"})
	sound(t, "above itself", named("A", "A", "A", "A"))
	sound(t, "names that begin alike", named("A", "S", "A1", "S"), api.Below{Class: "A1", Above: "S"})
	sound(t, "a letter's case", named("A", "S", "a", "object"), api.Below{Class: "a", Above: "object"})
}

// TestAllThatAreThere: each of them is known, and where it stands.
func TestAllThatAreThere(t *testing.T) {
	errors := []string{"NoClass", "BadForm", "Circular", "BadClass", "NoField", "NoMethod", "BadInit", "Arith", "NullRef", "BadCast", "Bounds", "BadSize", "Heap", "Deep"}
	for i, name := range errors {
		for _, above := range []string{"Error", "Throwable", "Object"} {
			sound(t, name+" below "+above, named("A", "S", name, above))
			unsound(t, above+" below "+name, named("A", "S", above, name), 0, 2)
		}
		for j, other := range errors {
			if i != j {
				unsound(t, name+" below "+other, named("A", "S", name, other), 0, 2)
			}
		}
		for _, other := range []string{"A", "S", "B"} {
			unsound(t, name+" below "+other, named("A", "S", name, other), 0, 2)
		}
	}
	unsound(t, "Throwable below Error", named("A", "S", "Throwable", "Error"), 0, 2)
	unsound(t, "Object below Throwable", named("A", "S", "Object", "Throwable"), 0, 2)
	unsound(t, "Throwable below A", named("A", "S", "Throwable", "A"), 0, 2)
}

// begin: a method with these parameters, more locals, whose first frame is this.
func begin(static bool, more int, params []api.Type, first ...api.Type) api.Class {
	own := 1
	if static {
		own = 0
	}
	return api.Class{Name: "A", Super: "S", Methods: []api.Method{{
		Name: "f", Static: static, Params: params, Locals: own + len(params) + more,
		Code: []api.Instr{op(api.Return)}, Frames: []api.Frame{{Locals: first}},
	}}}
}

func TestBeginning(t *testing.T) {
	params := []api.Type{anInt, aB, aRow}
	sound(t, "static", begin(true, 0, params, anInt, aB, aRow))
	sound(t, "not static", begin(false, 0, params, anA, anInt, aB, aRow))
	sound(t, "more locals", begin(false, 2, params, anA, anInt, aB, aRow, top, top))
	sound(t, "nothing", begin(true, 0, nil))
	sound(t, "itself", begin(false, 0, nil, anA))
	sound(t, "itself below its Super", begin(false, 0, nil, object("S")))
	unsound(t, "static has no object", begin(true, 1, nil, anA), 0, 0)
	unsound(t, "the others are Top, not Null", begin(true, 1, nil, null), 0, 0)
	unsound(t, "the others are Top, not Int", begin(false, 1, nil, anA, anInt), 0, 0)
	unsound(t, "the other way round", begin(true, 0, params, aRow, aB, anInt), 0, 0)
	unsound(t, "the object comes first", begin(false, 0, []api.Type{anInt}, anInt, anA), 0, 0)
	stacked := begin(true, 0, nil)
	stacked.Methods[0].Stack, stacked.Methods[0].Frames[0].Stack = 1, []api.Type{null}
	unsound(t, "nothing is on the stack", stacked, 0, 0)
}

// TestFrameIsTheState: behind a frame just what it says is known.
func TestFrameIsTheState(t *testing.T) {
	c := body(op(api.Nop), with(api.Load, 0), op(api.Pop), op(api.Return))
	c.Methods[0].Frames = []api.Frame{{At: 1, Locals: []api.Type{top, top}}}
	unsound(t, "the frame has forgotten a local", c, 0, 1)
	c.Methods[0].Frames[0].At = 2
	c.Methods[0].Frames[0].Stack = []api.Type{anInt}
	sound(t, "a frame behind it", c)
	c = body(ofClass(api.New, "B"), ofField(api.GetField, "B", anInt), op(api.Pop), op(api.Return))
	c.Methods[0].Frames = []api.Frame{{At: 1, Locals: []api.Type{anInt, top}, Stack: []api.Type{object("C")}}}
	sound(t, "the frame's class counts", c, api.Below{Class: "B", Above: "C"}, api.Below{Class: "C", Above: "B"})
	c.Methods[0].Frames[0].Stack[0] = null
	unsound(t, "an Object is no Null", c, 0, 1)
}

// body: the class A below S with the static method f of this code: two locals,
// an Int and Top, a stack of 3.
func body(code ...api.Instr) api.Class {
	return api.Class{Name: "A", Super: "S", Methods: []api.Method{{
		Name: "f", Static: true, Params: []api.Type{anInt}, Locals: 2, Stack: 3, Code: code,
	}}}
}

func TestEnds(t *testing.T) {
	ends := []api.Instr{with(api.Goto, 0), op(api.Return), op(api.Throw)}
	for _, end := range ends {
		ahead := op(api.Nop)
		if end.Op == api.Throw {
			ahead = op(api.PushNull)
		}
		c := body(ahead, end)
		c.Methods[0].Frames = []api.Frame{{At: 0, Locals: []api.Type{anInt, top}}}
		sound(t, "the end", c)
		c = body(ahead, end, op(api.Nop), op(api.Return))
		c.Methods[0].Frames = []api.Frame{{At: 0, Locals: []api.Type{anInt, top}}}
		unsound(t, "what nothing comes to", c, 0, 2)
		c.Methods[0].Frames = append(c.Methods[0].Frames, api.Frame{At: 2, Locals: []api.Type{aRow, aRow}})
		sound(t, "with a frame it may be come to", c)
	}
	for _, last := range []api.Instr{op(api.Nop), with(api.Push, 1), with(api.IfZero, 0)} {
		c := body(op(api.Read), last)
		c.Methods[0].Frames = []api.Frame{{At: 0, Locals: []api.Type{anInt, top}}}
		unsound(t, "behind the last", c, 0, 1)
	}
	unsound(t, "just a Nop", body(op(api.Nop)), 0, 0)
}

func TestGoingElsewhere(t *testing.T) {
	unsound(t, "no frame there", body(with(api.Goto, 1), op(api.Return)), 0, 0)
	unsound(t, "no frame at itself", body(with(api.Goto, 0)), 0, 0)
	c := body(op(api.Read), with(api.IfZero, 3), op(api.Return), op(api.Return))
	unsound(t, "no frame there, ahead", c, 0, 1)
	c.Methods[0].Frames = []api.Frame{{At: 3, Locals: []api.Type{anInt, top}}}
	sound(t, "a frame there", c)
	c.Methods[0].Frames[0].Stack = []api.Type{anInt}
	unsound(t, "what is taken is gone", c, 0, 1)
	c = body(op(api.Read), op(api.Read), op(api.Read), with(api.IfLess, 5), op(api.Return), op(api.Return))
	c.Methods[0].Frames = []api.Frame{{At: 5, Locals: []api.Type{anInt, top}, Stack: []api.Type{anInt}}}
	sound(t, "what is left comes along", c)
	back := body(op(api.Nop), op(api.PushNull), with(api.Store, 0), with(api.Goto, 1))
	back.Methods[0].Frames = []api.Frame{{At: 1, Locals: []api.Type{anInt, top}}}
	unsound(t, "back with another local", back, 0, 3)
	back.Methods[0].Frames[0].Locals[0] = top
	sound(t, "back with what may be anything", back)
}

// TestFirstWrong: the first method, and in it the first instruction.
func TestFirstWrong(t *testing.T) {
	good := api.Method{Name: "good", Static: true, Code: []api.Instr{op(api.Return)}}
	bad := api.Method{Name: "bad", Static: true, Stack: 1, Code: []api.Instr{op(api.Nop), op(api.Pop), op(api.Add), op(api.Nop)}}
	worse := api.Method{Name: "worse", Static: true, Code: []api.Instr{op(api.Pop)}}
	many := methods(api.MaxMethods)
	many[19].Code = []api.Instr{op(api.Nop)}
	for _, c := range []struct {
		methods    []api.Method
		method, at int
	}{
		{[]api.Method{bad}, 0, 1},
		{[]api.Method{good, bad, worse}, 1, 1},
		{[]api.Method{good, worse, bad}, 1, 0},
		{many, 19, 0},
	} {
		unsound(t, "several", api.Class{Name: "A", Super: "S", Methods: c.methods}, c.method, c.at)
	}
	long := body(make([]api.Instr, api.MaxCode)...)
	unsound(t, "the last instruction", long, 0, api.MaxCode-1)
	taken := body(ofClass(api.New, "B"), op(api.Throw))
	taken.Methods = append(taken.Methods, worse)
	unsound(t, "behind what was taken for granted", taken, 1, 0)
}

func TestGrantedInOrder(t *testing.T) {
	pairs := []api.Below{{Class: "b", Above: "a"}, {Class: "B", Above: "a"}, {Class: "Ba", Above: "C"}, {Class: "B", Above: "C"}, {Class: "B", Above: "C1"}, {Class: "b", Above: "C"}, {Class: "B1", Above: "Z"}}
	var methods []api.Method
	for i, p := range append(pairs, pairs...) {
		methods = append(methods, api.Method{Name: letter(i), Static: true, Stack: 1, Result: object(p.Above), Code: []api.Instr{ofClass(api.New, p.Class), op(api.Give)}})
	}
	want := []api.Below{{Class: "B", Above: "C"}, {Class: "B", Above: "C1"}, {Class: "B", Above: "a"}, {Class: "B1", Above: "Z"}, {Class: "Ba", Above: "C"}, {Class: "b", Above: "C"}, {Class: "b", Above: "a"}}
	sound(t, "each once", api.Class{Name: "A", Super: "S", Methods: methods}, want...)
	slices.Reverse(methods)
	sound(t, "the other way round", api.Class{Name: "A", Super: "S", Methods: methods}, want...)
	sound(t, "without methods", api.Class{Name: "A", Super: "S"})
	sound(t, "the document's example 1", example())
}

// TestExampleThree: of the document.
func TestExampleThree(t *testing.T) {
	m := api.Method{Name: "f", Static: true, Stack: 1, Result: object("C"), Code: []api.Instr{ofClass(api.New, "B"), op(api.Give)}}
	other := m
	other.Name = "g"
	sound(t, "two methods", api.Class{Name: "A", Super: "Object", Methods: []api.Method{m, other}}, api.Below{Class: "B", Above: "C"})
}

// TestCheckOfNoClass: all that is no class is refused ahead of everything else.
func TestCheckOfNoClass(t *testing.T) {
	for _, ch := range append(wrongButWritable(), wrongAndUnwritable()...) {
		l, method, at, e := atrium.Check(changed(ch))
		if len(l) != 0 || method != 0 || at != 0 || e != api.ErrForm {
			t.Errorf("P5: %s: Check = %v, %d, %d, %d", ch.why, l, method, at, e)
		}
	}
	bad := body(op(api.Pop))
	bad.Methods = append(bad.Methods, api.Method{})
	if l, method, at, e := atrium.Check(bad); len(l) != 0 || method != 0 || at != 0 || e != api.ErrForm {
		t.Errorf("P5: no class, and wrong ahead of that: Check = %v, %d, %d, %d", l, method, at, e)
	}
}

// TestGreatestClass: it ends soon with as much of everything as there may be.
func TestGreatestClass(t *testing.T) {
	var want []api.Below
	locals, other := make([]api.Type, api.MaxLocals), make([]api.Type, api.MaxLocals)
	for i := range locals {
		locals[i], other[i] = object("B"+letter(i)), object("C")
		want = append(want, api.Below{Class: locals[i].Class, Above: "C"})
	}
	all := methods(api.MaxMethods)
	for i := range all {
		m := &all[i]
		m.Locals, m.Stack, m.Code = api.MaxLocals, 1, make([]api.Instr, api.MaxCode)
		m.Code[0], m.Code[api.MaxCode-1] = op(api.Return), op(api.Return)
		m.Frames = []api.Frame{{At: 1, Locals: locals}, {At: api.MaxCode - 1, Locals: other, Stack: []api.Type{aThrowable}}}
		m.Code[api.MaxCode-2] = op(api.Return)
		for range api.MaxHandlers {
			m.Handlers = append(m.Handlers, api.Handler{From: 1, To: api.MaxCode - 1, At: api.MaxCode - 1})
		}
	}
	sound(t, "the greatest class", api.Class{Name: "A", Super: "S", Methods: all}, want...)
}

// TestCheckWritesNothing: P2: the lists of frames become states, and these change.
func TestCheckWritesNothing(t *testing.T) {
	c, twin := roomy(busy()), roomy(busy())
	sound(t, "twice the same", c, api.Below{Class: "B", Above: "C"})
	sound(t, "twice the same", c, api.Below{Class: "B", Above: "C"})
	if !reflect.DeepEqual(withSpare(c), withSpare(twin)) {
		t.Error("P2: the class was written into")
	}
}

// busy changes locals and the stack right behind a frame.
func busy() api.Class {
	c := body(with(api.Goto, 1), op(api.Read), with(api.Store, 1), with(api.Load, 1), op(api.Print), op(api.PushNull), with(api.Store, 0), ofClass(api.New, "B"), ofField(api.PutStatic, "D", object("C")), op(api.Return))
	c.Methods[0].Frames = []api.Frame{{At: 1, Locals: []api.Type{anInt, top}}, {At: 5, Locals: []api.Type{anInt, anInt}}}
	c.Methods = append(c.Methods, api.Method{
		Name: "g", Static: true, Params: []api.Type{anInt}, Locals: 1, Stack: 3,
		Code:   []api.Instr{op(api.Read), op(api.Pop), op(api.PushNull), op(api.Pop), op(api.Return)},
		Frames: []api.Frame{{At: 1, Locals: []api.Type{anInt}, Stack: []api.Type{anInt}}},
	})
	return c
}

// TestCheckAnswersNewMemory: P2: two answers share nothing.
func TestCheckAnswersNewMemory(t *testing.T) {
	first, _, _, _ := atrium.Check(busy())
	second, _, _, _ := atrium.Check(busy())
	scribble(reflect.ValueOf(first))
	if want := []api.Below{{Class: "B", Above: "C"}}; !slices.Equal(second, want) {
		t.Errorf("P2: %v behind what was written into another answer", second)
	}
	sound(t, "behind what was written into an answer", busy(), api.Below{Class: "B", Above: "C"})
}

// TestCheckOfAnyCode: a class is right, or wrong at a place that it has; it is
// ErrForm just if Encode says so, so nothing went wrong but on purpose.
func TestCheckOfAnyCode(t *testing.T) {
	from := rand.New(rand.NewSource(1))
	ends := map[api.Errno]int{}
	for range 20000 {
		ends[checkedAs(t, anyClass(from))]++
	}
	if ends[api.OK] < 100 || ends[api.ErrCheck] < 100 {
		t.Errorf("too few of a kind: %v", ends)
	}
}

func checkedAs(t *testing.T, c api.Class) api.Errno {
	t.Helper()
	_, form := atrium.Encode(c)
	l, method, at, e := atrium.Check(c)
	switch {
	case form != api.OK || e == api.ErrForm:
		if e != form || len(l) != 0 || method != 0 || at != 0 {
			t.Errorf("P5: Check = %v, %d, %d, %d, where Encode says %d: %v", l, method, at, e, form, c)
		}
	case e == api.ErrCheck:
		if len(l) != 0 || method < 0 || method >= len(c.Methods) || at < 0 || at >= len(c.Methods[method].Code) {
			t.Errorf("P5: Check = %v, %d, %d, %d of %v", l, method, at, e, c)
		}
	case method != 0 || at != 0 || e != api.OK:
		t.Errorf("P5: Check = %v, %d, %d, %d of %v", l, method, at, e, c)
	}
	return e
}

// anyClass: a class with one method of some instructions, mostly of few kinds, so
// that they have a chance to go together.
func anyClass(from *rand.Rand) api.Class {
	every := everyOperation()
	m := api.Method{Name: "f", Static: from.Intn(2) == 0, Locals: 3, Stack: 1 + from.Intn(4)}
	for range 1 + from.Intn(6) {
		in := every[from.Intn(len(every))]
		if from.Intn(2) == 0 {
			in = every[[]int{api.Push, api.PushNull, api.Pop, api.Read, api.Nop, api.New}[from.Intn(6)]]
		}
		m.Code = append(m.Code, in)
	}
	m.Code = append(m.Code, op(api.Return))
	for i := range m.Code {
		if o := m.Code[i].Op; o >= api.Goto && o <= api.IfNull {
			m.Code[i].N = from.Intn(len(m.Code))
		}
	}
	for at := range m.Code {
		if from.Intn(6) == 0 {
			m.Frames = append(m.Frames, api.Frame{At: at, Locals: []api.Type{top, top, top}, Stack: types(from.Intn(2))})
		}
	}
	if from.Intn(4) == 0 {
		m.Handlers = []api.Handler{{From: 0, To: len(m.Code), At: from.Intn(len(m.Code))}}
	}
	return api.Class{Name: "A", Super: "S", Methods: []api.Method{m}}
}

func FuzzCheck(f *testing.F) {
	f.Add(exampleBytes)
	f.Add(small())
	f.Add(rawBytes(busy()))
	f.Fuzz(func(t *testing.T, s string) {
		c, _ := atrium.Decode(s)
		checkedAs(t, c)
	})
}
